"""Asks as objects, with their letters and answers."""

from starshelves.askkinds import is_letter
from starshelves.asking import answer_by, letters_of
from starshelves.covering import plain_covers
from starshelves.demands import demand
from starshelves.kinds import is_lot
from starshelves.rows import picked
from starshelves.seeing import learns
from starshelves.stockkinds import is_hall, is_shelf
from starshelves.stocks import shelves_of


class Ask:
    """An ask for a slot of a stock, with covers; it never changes."""

    def __init__(self, hall, stock, ask, covers):
        demand(is_hall(hall), "hall")
        letters = letters_of(hall, stock, ask, covers)
        held = shelves_of(hall, stock)
        self._form = (hall, stock, ask, covers)
        self._letters = letters
        self._digits = tuple([answer_by(hall[0][0], dealt, letter) for dealt, letter in zip(held, letters)])

    @property
    def hall_now(self):
        """The hall."""
        return self._form[0]

    @property
    def stock_now(self):
        """The stock."""
        return self._form[1]

    @property
    def ask_now(self):
        """The slot and the mark."""
        return self._form[2]

    @property
    def covers_now(self):
        """The covers."""
        return self._form[3]

    def __getitem__(self, shelf):
        """The letter to the shelf."""
        demand(is_shelf(self._form[0], shelf), "shelf")
        return self._letters[shelf]

    def __call__(self, shelf):
        """The answer of the shelf."""
        demand(is_shelf(self._form[0], shelf), "shelf")
        return self._digits[shelf]

    def __contains__(self, thing):
        """Whether any value is one of the letters."""
        return is_letter(self._form[0], self._form[1], thing) and thing in self._letters

    def __len__(self):
        """How many shelves there are."""
        return len(self._letters)

    def __iter__(self):
        return iter(self._letters)

    def __str__(self):
        """The answers of all shelves."""
        return " ".join([str(digit) for digit in self._digits])

    def __eq__(self, other):
        return isinstance(other, Ask) and self._form == other._form

    def answers(self, lot):
        """The answers of the lot's shelves."""
        demand(is_lot(len(self._letters), lot), "lot")
        return tuple([(shelf, self._digits[shelf]) for shelf in lot])

    def learned_by(self, lot):
        """Whether the lot learns what is asked."""
        return learns(self._form[0], self._form[2][1], lot)

    def seen_by(self, lot):
        """The letters to the lot's shelves."""
        demand(is_lot(len(self._letters), lot), "lot")
        return picked(self._letters, lot)


class Plain(Ask):
    """An ask with plain covers."""

    def __init__(self, hall, stock, ask):
        demand(is_hall(hall), "hall")
        Ask.__init__(self, hall, stock, ask, plain_covers(hall, stock))
