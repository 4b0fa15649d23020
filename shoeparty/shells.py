"""Shells: parties that are edited and asked by lines of text."""

from shoeparty.errors import NoGuest, NoPair, PartyError
from shoeparty.more import run_without
from shoeparty.texts import hall_text, number_in

DIGITS = 8
PLAIN = ("undo", "party", "most", "fewest")
NUMBERED = ("come", "leave", "put", "take", "sure", "without")


def _command_in(line):
    # A command is its name and its number, which is None if it has none.
    if not isinstance(line, str):
        return None
    words = line.split(" ")
    if len(words) == 1 and words[0] in PLAIN:
        return words[0], None
    if len(words) != 2 or words[0] not in NUMBERED:
        return None
    number = number_in(words[1], DIGITS)
    if number is None:
        return None
    return words[0], number


def _can_go_without(hall, guest):
    if guest >= len(hall[0]):
        raise NoGuest(guest)
    return run_without(hall, guest) is not None


def _version_after(party, name, number):
    if name == "come":
        return party.come(number)
    if name == "leave":
        return party.leave(number)
    if name == "put":
        return party.put(number)
    if name == "take":
        return party.take(number)
    return party.undo()


def _answer(party, name, number):
    if name == "party":
        return hall_text(party.hall)
    if name == "most":
        return str(party.most)
    if name == "fewest":
        return str(party.fewest)
    if name == "sure":
        return party.certificate(number)[0]
    if name == "without":
        return "yes" if _can_go_without(party.hall, number) else "no"
    return f"ok {_version_after(party, name, number)}"


class Shell:
    """Answers lines of text, and edits the very party that it was made of."""

    def __init__(self, party):
        self._party = party

    def execute(self, line):
        """Return the answer to the line, which may be any value."""
        command = _command_in(line)
        if command is None:
            return "unknown command"
        name, number = command
        try:
            return _answer(self._party, name, number)
        except (PartyError, NoGuest, NoPair) as error:
            return "error " + type(error).__name__
