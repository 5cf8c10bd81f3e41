"""How few rounds are enough, as objects."""

from starshelves.demands import demand
from starshelves.kinds import is_lot
from starshelves.lots import rest_in
from starshelves.ranks import rank_at
from starshelves.rounds import is_left, least_rounds, left_by, most_told, rest_book, rounds_cut
from starshelves.stockkinds import is_shelf


class Rounds:
    """How much some rounds tell of what is left, in spite of a silent lot; it never changes."""

    def __init__(self, hall, silent, left=None):
        rest = rest_book(hall, silent)
        demand(is_left(hall, left), "left")
        book = left_by(hall, left)
        self._form = (hall, silent, book)
        self._rows = book[2]
        self._rest = rest
        self._least = least_rounds(hall, silent, book)
        self._told = growing_told(hall, silent, book)

    @property
    def rest_now(self):
        """The rest."""
        return self._rest

    @property
    def left_now(self):
        """The book of what is left."""
        return self._form[2]

    @property
    def least_now(self):
        """How few rounds are enough; None if none are."""
        return self._least

    def __getitem__(self, many):
        """The greatest number of shelves of so many shares."""
        return most_told(self._form[0], self._form[1], many, self._form[2])

    def __call__(self, many):
        """A lot that shows that so many rounds are not enough; None without one."""
        return rounds_cut(self._form[0], self._form[1], many, self._form[2])

    def __contains__(self, thing):
        """Whether any value is shares with as many shelves as what is left has rows."""
        return are_full_shares(self._rest, self._form[2], thing)

    def __len__(self):
        """How many rows what is left has."""
        return len(self._rows)

    def __iter__(self):
        return iter(self._told)

    def __eq__(self, other):
        return isinstance(other, Rounds) and self._form == other._form

    def __add__(self, shelf):
        """The Rounds with this shelf silent, too."""
        hall, silent, left = self._form
        demand(is_shelf(hall, shelf) and shelf not in silent, "shelf")
        return Rounds(hall, tuple(sorted([*silent, shelf])), left)

    def __sub__(self, shelf):
        """The Rounds with this shelf silent no more."""
        hall, silent, left = self._form
        demand(is_shelf(hall, shelf) and shelf in silent, "shelf")
        return Rounds(hall, rest_in(silent, shelf), left)


def growing_told(hall, silent, left):
    """What 1, 2 and so on shares tell, as far as each tells more than the one before."""
    told = [0]
    more = most_told(hall, silent, 1, left)
    while more > told[-1]:
        told.append(more)
        more = most_told(hall, silent, len(told), left)
    return tuple(told[1:])


def are_full_shares(rest, book, thing):
    """Whether any value is shares, of this rest, with as many shelves as the book has rows."""
    if not isinstance(thing, tuple) or not all([is_lot(rest[1], lot) for lot in thing]):
        return False
    together = [shelf for lot in thing for shelf in lot]
    # A shelf that is in two lots adds no rank: so they are apart, too, if the rank is how many shelves there are.
    is_full = rank_at(book, together) == len(together) == len(book[2])
    return is_full and all([rank_at(rest, lot) == len(lot) for lot in thing])
