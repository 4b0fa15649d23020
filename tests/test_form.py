"""The form of the files of the package: what can be seen without reading them as a person."""

import ast
import pathlib
import unittest

FOLDER = pathlib.Path(__file__).resolve().parent.parent / "shoeparty"
INTERFACE = {
    "halls": ["is_hall", "hall_error", "counts_at"],
    "runs": ["is_run", "served_by", "left_by", "small_run", "large_run"],
    "numbers": [
        "most_served", "fewest_served", "sure_certificate", "possible_certificate",
        "sure_certificate_holds", "possible_certificate_holds",
    ],
}


class FormTest(unittest.TestCase):
    def files(self):
        return sorted(FOLDER.glob("*.py"))

    def test_the_folder_holds_files_of_the_package_only(self):
        names = [path.name for path in FOLDER.iterdir() if path.name != "__pycache__"]
        self.assertEqual(sorted(names), [path.name for path in self.files()])
        self.assertIn("__init__.py", names)

    def test_characters_and_sizes(self):
        for path in self.files():
            text = path.read_text(encoding="ascii")
            rows = text.split("\n")
            with self.subTest(path.name):
                self.assertTrue(all(sign == "\n" or " " <= sign <= "~" for sign in text))
                self.assertLessEqual(len(rows), 399)
                self.assertLessEqual(max(len(row) for row in rows), 120)
                for part in ast.walk(ast.parse(text)):
                    if isinstance(part, ast.FunctionDef):
                        self.assertLessEqual(part.end_lineno - part.lineno + 1, 40, part.name)

    def test_imports_name_files_of_the_package(self):
        for path in self.files():
            for part in ast.walk(ast.parse(path.read_text())):
                self.assertNotIsInstance(part, ast.Import, path.name)
                if isinstance(part, ast.ImportFrom):
                    package, _, module = part.module.partition(".")
                    self.assertEqual((package, part.level), ("shoeparty", 0), path.name)
                    self.assertTrue((FOLDER / (module + ".py")).is_file(), part.module)

    def test_functions_stand_in_the_file_that_the_interface_names(self):
        for module, names in INTERFACE.items():
            body = ast.parse((FOLDER / (module + ".py")).read_text()).body
            defined = [part.name for part in body if isinstance(part, ast.FunctionDef)]
            for name in names:
                self.assertIn(name, defined, module)


if __name__ == "__main__":
    unittest.main()
