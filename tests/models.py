"""Parties by the words of the document, made without the package, and a test case that compares parties with them."""

import unittest

from samples import LARGEST, any_values, least_numbers
from shoeparty import errors
from shoeparty.parties import Party, PledgedParty
from shoeparty.pledges import Pledge
from shoeparty.values import Porter, Shelf

NAMES = ("come", "leave", "put", "take")


class Draw:
    """Numbers in no order, always the same ones for the same start."""

    def __init__(self, start):
        self.state = start

    def below(self, bound):
        self.state = (self.state * 1103515245 + 12345) % 2 ** 31
        return (self.state >> 8) % bound

    def one_of(self, values):
        return values[self.below(len(values))]

    def shuffled(self, values):
        left, order = list(values), []
        while left:
            order.append(left.pop(self.below(len(left))))
        return tuple(order)

    def edit(self, hall, top):
        """An edit that a party with this hall may accept."""
        name = self.one_of(NAMES)
        if name in ("come", "put"):
            return name, 1 + self.below(top)
        return name, self.below(max(1, len(hall[0 if name == "leave" else 1])))


def is_number_to(value, most):
    return type(value) is int and 0 <= value <= most


def is_size(value):
    return is_number_to(value, LARGEST) and value > 0


def hall_after(hall, name, value):
    feet, pairs = list(hall[0]), list(hall[1])
    if name == "come":
        feet.append(value)
    elif name == "leave":
        del feet[value]
    elif name == "put":
        pairs.append(value)
    else:
        del pairs[value]
    return tuple(feet), tuple(pairs)


def walked(hall):
    """The items of walk."""
    left, items = list(hall[1]), []
    for guest, foot in enumerate(hall[0]):
        size = min([size for size in left if size >= foot], default=0)
        if size:
            left.remove(size)
        items.append((guest, size, tuple(left)))
    return items


class Model:
    """A party, or one with a pledge: its halls and its edits."""

    def __init__(self, hall, pledge=None):
        self.halls = [hall]
        self.done = []
        self.pledge = pledge

    def hall(self):
        return self.halls[-1]

    def error(self, name, value):
        """What the edit raises, as the name of the class and its fields, or None."""
        feet, pairs = self.hall()
        found = None
        if len(self.done) == 60:
            return "TooManyEdits", []
        if name == "come":
            found = ("TooManyGuests", []) if len(feet) == 20 else None
            found = found if is_size(value) else ("BadFoot", [value])
        elif name == "put":
            found = ("TooManyPairs", []) if len(pairs) == 20 else None
            found = found if is_size(value) else ("BadSize", [value])
        elif name == "leave":
            found = ("LastGuest", []) if len(feet) == 1 else None
            found = found if is_number_to(value, len(feet) - 1) else ("NoGuest", [value])
        elif not is_number_to(value, len(pairs) - 1):
            found = ("NoPair", [value])
        if found is None and self.pledge is not None:
            fewest = least_numbers(hall_after(self.hall(), name, value))[1]
            found = ("TooFewServed", [fewest]) if fewest < self.pledge else None
        return found

    def edit(self, name, value):
        self.halls.append(hall_after(self.hall(), name, value))
        self.done.append((name, value))
        return len(self.done)

    def undo(self):
        self.halls.pop()
        self.done.pop()
        return len(self.done)

    def text(self):
        feet, pairs = self.hall()
        most, fewest = least_numbers(self.hall())
        words = [len(feet), "guests,", len(pairs), "pairs, served", fewest, "to", most]
        return " ".join([str(word) for word in words]) + ", " + str(len(self.done)) + " edits"


def seen(party):
    """All that a party tells without being changed."""
    versions = range(len(party) + 1)
    found = [party.hall, party.most, party.fewest, len(party), str(party), party.edits(), party.state()]
    found += [party.state(version=version) for version in versions]
    return repr(found + [list(party.walk()), party.certificate(party.fewest), party.certificate(party.fewest + 1)])


def other_values():
    """Values that have objects of this package for parts, or are such objects."""
    party = Party(((2, 3), (2, 4)))
    found = [Shelf((1, 2)), Porter(Shelf((1,))), Pledge(1), party, PledgedParty(party.hall, 0)]
    return found + [(Shelf((1,)), 1), [Shelf(())], {"party": party}, (party, (2,))]


def wrong_numbers(most):
    """Values that are not numbers from 0 to most."""
    odd = [-1, -2, most + 1, most + 2, "0", "1", (0,), (1,), [0], [1], {"0": 1}, (None, "hall")]
    return [value for value in odd + any_values() + other_values() if not is_number_to(value, most)]


def wrong_sizes():
    return [0, *wrong_numbers(LARGEST)]


class PartyCase(unittest.TestCase):
    def check(self, party, model):
        """Compare what a party tells now with its model."""
        most, fewest = least_numbers(model.hall())
        told = [party.hall, party.most, party.fewest, len(party), str(party), party.edits(), party.state()]
        wanted = [model.hall(), most, fewest, len(model.done), model.text(), tuple(model.done), model.hall()]
        self.assertEqual(repr(told), repr(wanted))

    def check_versions(self, party, model):
        self.check(party, model)
        for version, hall in enumerate(model.halls):
            self.assertEqual(repr(party.state(version=version)), repr(hall))

    def check_error(self, error, name, fields):
        self.assertIs(type(error), getattr(errors, name))
        found = list(vars(error).values())
        self.assertEqual(len(found), len(fields), name)
        for value, wanted in zip(found, fields):
            if type(wanted) is int:
                self.assertEqual(repr(value), repr(wanted))
            else:
                self.assertIs(value, wanted)

    def check_raises(self, name, fields, action, *values, **named):
        """Check that a call raises an error of exactly this class with these fields."""
        with self.assertRaises(Exception) as caught:
            action(*values, **named)
        self.check_error(caught.exception, name, fields)

    def check_refused(self, party, name, fields, action, *values, **named):
        """Check that such a call leaves the party as it is, too."""
        before = seen(party)
        self.check_raises(name, fields, action, *values, **named)
        self.assertEqual(seen(party), before)

    def follow(self, party, model, name, value):
        """Do an edit to a party and to its model, which tells whether it raises an error."""
        error = model.error(name, value)
        action = getattr(party, name)
        if error is None:
            self.assertEqual(repr(action(value)), repr(model.edit(name, value)))
        else:
            self.check_refused(party, error[0], error[1], action, value)
        self.check(party, model)
