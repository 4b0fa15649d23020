"""Pledges: how many guests are to be served at least."""

from shoeparty.bounds import LIMIT
from shoeparty.errors import BadNumber, TooFewServed
from shoeparty.halls import is_number_from


class Pledge:
    """A pledge, which is a number from 0 to LIMIT and is only read."""

    def __init__(self, pledge):
        if not is_number_from(pledge, 0, LIMIT):
            raise BadNumber(pledge)
        self.pledge = pledge

    def spare(self, number):
        """Return how many more than the pledge the number is."""
        if not is_number_from(number, 0, LIMIT):
            raise BadNumber(number)
        if number < self.pledge:
            raise TooFewServed(number)
        return number - self.pledge
