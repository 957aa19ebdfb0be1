"""Hunts: trials told one by one, and what is known by them."""

from badbegins.apart import settled
from badbegins.books import best_make, number_of
from badbegins.errors import NothingTold, TooGreat
from badbegins.halves import halving_make
from badbegins.stands import known, makes_of
from badbegins.trials import barred_by


class Hunt:
    """A search for the make of a net at which badness began."""

    def __init__(self, net, lies=0, prices=None):
        self._net = net
        self._lies = lies
        self._prices = None if prices is None else list(prices)
        self._trials = []

    def tell(self, make, answer):
        """Take one more trial, or refuse it."""
        trials = [*self._trials, (make, answer)]
        # This refuses what is no trial, and what leaves no make possible.
        known(self._net, trials, self._lies)
        self._trials = trials

    def back(self):
        """Take the last trial back."""
        if not self._trials:
            raise NothingTold()
        self._trials = self._trials[:-1]

    def told(self):
        """The trials, in the order in which they were told."""
        return list(self._trials)

    def known(self):
        """The stand that the trials leave."""
        return known(self._net, self._trials, self._lies)

    def barred(self):
        """The makes that the trials tell to be such as can't be tried."""
        return barred_by(self._net, self._trials)

    def settled(self):
        """Whether no make to try parts the makes that are possible."""
        return settled(self._net, makes_of(self.known()), self.barred())

    def number(self):
        """The least number of trials, or prices of these, that the stand needs at worst."""
        return number_of(self._net, self.known(), self.barred(), self._lies, self._prices)

    def next_make(self):
        """The make to try next, or None where the stand is settled."""
        stand = self.known()
        try:
            return best_make(self._net, stand, self.barred(), self._lies, self._prices)
        except TooGreat:
            return halving_make(self._net, makes_of(stand), self.barred())

    def left(self):
        """The makes of the stand where it is settled, else None."""
        return makes_of(self.known()) if self.settled() else None

    def twin(self):
        """Another hunt with the same trials."""
        other = Hunt(self._net, self._lies, self._prices)
        other._trials = list(self._trials)
        return other
