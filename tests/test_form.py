"""The form of the files of the package: what can be seen without reading them as a person."""

import ast
import pathlib
import unittest

FOLDER = pathlib.Path(__file__).resolve().parent.parent / "shoeparty"
INTERFACE = {
    "halls": ["is_hall", "hall_error", "counts_at"],
    "runs": ["is_run", "served_by", "left_by", "small_run", "large_run"],
    "numbers": [
        "most_served", "fewest_served", "sure_certificate", "possible_certificate",
        "sure_certificate_holds", "possible_certificate_holds",
    ],
    "more": ["run_with", "run_without", "run_leaving", "can_miss", "fewest_more", "fewest_larger"],
    "counting": ["count_runs", "count_served", "each_run"],
    "texts": ["hall_text", "parse_hall"],
}
CLASSES = {
    "errors": {
        "PartyError": [], "TooLarge": ["__init__"], "BadShelf": ["__init__"], "TooManyPairs": [],
        "Missing": ["__init__"], "BadFoot": ["__init__"], "BadHall": ["__init__"], "Busy": [], "TooManyEdits": [],
        "TooManyGuests": [], "LastGuest": [], "BadSize": ["__init__"], "NothingToUndo": [], "BadEdits": [],
        "BadEdit": ["__init__"], "Rejected": ["__init__"], "BadNumber": ["__init__"], "TooFewServed": ["__init__"],
        "BadText": ["__init__"], "NoPlace": ["__init__"], "NoGuest": ["__init__"], "NoPair": ["__init__"],
        "NoVersion": ["__init__"],
    },
    "values": {
        "Shelf": [
            "__init__", "__getitem__", "__iter__", "__add__", "__sub__", "__contains__", "__len__", "__str__", "__eq__",
        ],
        "Porter": ["__init__", "__call__"],
    },
    "pledges": {"Pledge": ["__init__", "spare"]},
    "parties": {
        "Party": [
            "__init__", "come", "leave", "put", "take", "undo", "attempt", "state", "certificate", "walk", "edits",
            "read", "__len__", "__str__", "__eq__",
        ],
        "PledgedParty": ["__init__"],
    },
    "shells": {"Shell": ["__init__", "execute"]},
}


class FormTest(unittest.TestCase):
    def files(self):
        return sorted(FOLDER.glob("*.py"))

    def test_the_folder_holds_files_of_the_package_only(self):
        names = [path.name for path in FOLDER.iterdir() if path.name != "__pycache__"]
        self.assertEqual(sorted(names), [path.name for path in self.files()])
        self.assertIn("__init__.py", names)

    def test_characters_and_sizes(self):
        for path in self.files():
            text = path.read_text(encoding="ascii")
            rows = text.split("\n")
            with self.subTest(path.name):
                self.assertTrue(all(sign == "\n" or " " <= sign <= "~" for sign in text))
                self.assertLessEqual(len(rows), 399)
                self.assertLessEqual(max(len(row) for row in rows), 120)
                for part in ast.walk(ast.parse(text)):
                    if isinstance(part, ast.FunctionDef):
                        self.assertLessEqual(part.end_lineno - part.lineno + 1, 40, part.name)

    def test_imports_name_files_of_the_package(self):
        for path in self.files():
            for part in ast.walk(ast.parse(path.read_text())):
                self.assertNotIsInstance(part, ast.Import, path.name)
                if isinstance(part, ast.ImportFrom):
                    package, _, module = part.module.partition(".")
                    self.assertEqual((package, part.level), ("shoeparty", 0), path.name)
                    self.assertTrue((FOLDER / (module + ".py")).is_file(), part.module)

    def test_functions_stand_in_the_file_that_the_interface_names(self):
        for module, names in INTERFACE.items():
            body = ast.parse((FOLDER / (module + ".py")).read_text()).body
            defined = [part.name for part in body if isinstance(part, ast.FunctionDef)]
            for name in names:
                self.assertIn(name, defined, module)

    def test_classes_and_their_methods_stand_in_the_file_that_the_interface_names(self):
        for module, classes in CLASSES.items():
            body = ast.parse((FOLDER / (module + ".py")).read_text()).body
            defined = {part.name: part.body for part in body if isinstance(part, ast.ClassDef)}
            self.assertEqual(sorted(defined), sorted(classes), module)
            for name, methods in classes.items():
                own = [part.name for part in defined[name] if isinstance(part, ast.FunctionDef)]
                listed = [one for one in own if one.startswith("__") or not one.startswith("_")]
                self.assertEqual(sorted(listed), sorted(methods), name)


if __name__ == "__main__":
    unittest.main()
