"""Stocks that are written, row by row."""

from starshelves.demands import demand
from starshelves.errors import NothingToUndo
from starshelves.kinds import is_word_in
from starshelves.stockkinds import is_shelf, is_slot, is_stock
from starshelves.stocks import dealt_to, with_slot
from starshelves.sums import total_of


class Draft:
    """A stock that is written, each write of which can be taken back."""

    def __init__(self, hall, stock):
        demand(is_stock(hall, stock), "stock")
        self._hall = hall
        self._stock = stock
        # The slots that were written, and beside each what the stock was before.
        self._slots = ()
        self._formers = ()

    @property
    def hall_now(self):
        """The hall."""
        return self._hall

    @property
    def stock_now(self):
        """The stock as it is written by now."""
        return self._stock

    def __getitem__(self, slot):
        """The row at the slot."""
        demand(is_slot(self._stock, slot), "slot")
        at, row = slot
        return self._stock[at][row]

    def __setitem__(self, slot, word):
        """Write this word of keep at the slot."""
        demand(is_slot(self._stock, slot), "slot")
        demand(is_word_in(self._hall[0], word), "word")
        self._formers = (*self._formers, self._stock)
        self._slots = (*self._slots, slot)
        self._stock = with_slot(self._stock, slot, word)

    def __call__(self, shelf):
        """All digits that the shelf holds, in the order of the slots."""
        demand(is_shelf(self._hall, shelf), "shelf")
        return tuple([digit for digits in dealt_to(self._stock, shelf) for digit in digits])

    def __contains__(self, thing):
        """Whether any value is a row of the stock."""
        return is_word_in(self._hall[0], thing) and any([thing in file for file in self._stock])

    def __len__(self):
        """How many writes there are that were not taken back."""
        return len(self._slots)

    def __iter__(self):
        return iter(self._slots)

    def __eq__(self, other):
        return isinstance(other, Draft) and self._hall == other._hall and self._stock == other._stock

    def total(self, weights):
        """The sum of all rows, each times its weight."""
        return total_of(self._hall, self._stock, weights)

    def back(self):
        """Take back the last write that was not taken back; its slot."""
        if len(self._slots) == 0:
            raise NothingToUndo(0)
        slot = self._slots[-1]
        self._stock = self._formers[-1]
        self._formers = self._formers[:-1]
        self._slots = self._slots[:-1]
        return slot
