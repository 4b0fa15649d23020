"""Parties: halls that change, with undo."""

from shoeparty.bounds import LIMIT
from shoeparty.edits import batch_of, hall_after
from shoeparty.errors import BadHall, BadNumber, Busy, NoGuest, NoPair, NothingToUndo, NoVersion
from shoeparty.errors import PartyError, Rejected, TooManyEdits
from shoeparty.halls import hall_error, is_number_from
from shoeparty.numbers import fewest_served, most_served, sure_certificate
from shoeparty.pledges import Pledge
from shoeparty.runs import NO_PAIR, small_run
from shoeparty.texts import parse_hall


def _sorted_sizes(hall):
    feet, pairs = hall
    return sorted(feet), sorted(pairs)


class Party:
    """A hall that is edited; hall, most and fewest are always up to date and are only read."""

    # The number MAX_EDITS: a class value is written as a literal.
    MOST_EDITS = 60

    def __init__(self, hall):
        error = hall_error(hall)
        if error is not None:
            raise BadHall(error)
        self._busy = False
        self._stand((hall,), ())

    def _stand(self, halls, done):
        # halls has the hall of each version, so one more than there are edits in done.
        self.hall = halls[-1]
        self.most = most_served(self.hall)
        self.fewest = fewest_served(self.hall)
        self._halls = halls
        self._done = done

    def _ask_idle(self):
        if self._busy:
            raise Busy()

    def _ask_pledge(self, fewest):
        """Raise an error if fewest, after an edit, is not enough: for a party without pledge it always is."""

    def _promised(self):
        return None

    def _do(self, name, value):
        if len(self._done) >= self.MOST_EDITS:
            raise TooManyEdits()
        hall = hall_after(self.hall, name, value)
        self._ask_pledge(fewest_served(hall))
        self._stand(self._halls + (hall,), self._done + ((name, value),))

    def _edit(self, name, value):
        self._ask_idle()
        self._do(name, value)
        return len(self._done)

    def come(self, foot):
        """Add a guest at the end, and return the new version."""
        return self._edit("come", foot)

    def leave(self, guest):
        """Remove the guest with this number, and return the new version."""
        return self._edit("leave", guest)

    def put(self, size):
        """Add a pair at the end, and return the new version."""
        return self._edit("put", size)

    def take(self, pair):
        """Remove the pair with this number, and return the new version."""
        return self._edit("take", pair)

    def undo(self):
        """Remove the last edit that stands, and return the new version."""
        self._ask_idle()
        if not self._done:
            raise NothingToUndo()
        self._stand(self._halls[:-1], self._done[:-1])
        return len(self._done)

    def _do_item(self, index, item):
        name, value = item
        try:
            self._do(name, value)
        except (PartyError, NoGuest, NoPair):
            raise Rejected(index)

    def _do_batch(self, batch, watch):
        for index, item in enumerate(batch):
            self._do_item(index, item)
            if watch is not None and bool(watch(self)):
                return index + 1
        return len(batch)

    def attempt(self, edits, *, watch=None):
        """Do all edits of a batch, or those up to where watch ends it, or none; return how many."""
        self._ask_idle()
        batch = batch_of(edits)
        hall, most, fewest = self.hall, self.most, self.fewest
        halls, done = self._halls, self._done
        many = None
        # While a batch is done, nobody but its watch can call a method of this party.
        self._busy = True
        try:
            many = self._do_batch(batch, watch)
        finally:
            # Whatever was raised, also by watch: everything is as it was before.
            self._busy = False
            if many is None:
                self.hall, self.most, self.fewest = hall, most, fewest
                self._halls, self._done = halls, done
        return many

    def _hall_at(self, version):
        if version is None:
            return self.hall
        if not is_number_from(version, 0, len(self._done)):
            raise NoVersion(version)
        return self._halls[version]

    def state(self, *, version=None):
        """Return the hall, now or at this version."""
        return self._hall_at(version)

    def certificate(self, number, *, version=None):
        """Return a sure certificate for the hall, now or at this version, and the number."""
        hall = self._hall_at(version)
        if not is_number_from(number, 0, LIMIT):
            raise BadNumber(number)
        return sure_certificate(hall, number)

    def walk(self, *, version=None):
        """Yield what each guest takes, and what is left, where all take the smallest pair that fits."""
        hall = self._hall_at(version)
        feet, pairs = hall
        left = list(range(len(pairs)))
        for guest, pair in small_run(hall, tuple(range(len(feet)))):
            size = 0
            if pair != NO_PAIR:
                size = pairs[pair]
                left.remove(pair)
            yield guest, size, tuple([pairs[other] for other in left])

    def edits(self):
        """Return the edits that stand, as tuples of the name and the value."""
        return self._done

    @classmethod
    def read(cls, text):
        """Return a new party with the hall of the text."""
        return cls(parse_hall(text))

    def __len__(self):
        return len(self._done)

    def __str__(self):
        feet, pairs = self.hall
        served = f"served {self.fewest} to {self.most}"
        return f"{len(feet)} guests, {len(pairs)} pairs, {served}, {len(self._done)} edits"

    def __eq__(self, other):
        if not isinstance(other, Party):
            return False
        # A party without pledge is not equal to one with the pledge 0.
        if self._promised() != other._promised():
            return False
        return _sorted_sizes(self.hall) == _sorted_sizes(other.hall)


class PledgedParty(Party, Pledge):
    """A party in which at least as many guests as pledged are surely served after each edit."""

    def __init__(self, hall, pledge):
        Party.__init__(self, hall)
        Pledge.__init__(self, pledge)
        self._ask_pledge(self.fewest)

    def _ask_pledge(self, fewest):
        # spare raises the error of a party, too.
        self.spare(fewest)

    def _promised(self):
        return self.pledge
