"""The free lots of a book as an object."""

from starshelves.bookchecker import lets_book
from starshelves.books import checks_of, cut_of, lot_book, span_of, within_of
from starshelves.commonlots import common_lot
from starshelves.demands import demand
from starshelves.freelots import bases_of, is_free, rank_on
from starshelves.joinedlots import joint_lots
from starshelves.kinds import is_lot
from starshelves.lots import rest_of


class Free:
    """The lots that are free in a book; it never changes."""

    def __init__(self, book):
        lets_book(book)
        self._book = book
        self._size = book[1]
        self._rows = book[2]
        self._bases = bases_of(book)

    @property
    def book_now(self):
        """The book."""
        return self._book

    def __call__(self, lot):
        """The rank of the book cut to the lot."""
        return rank_on(self._book, lot)

    def __contains__(self, thing):
        """Whether any value is a lot that is free."""
        return is_lot(self._size, thing) and is_free(self._book, thing)

    def __len__(self):
        """The rank of the book."""
        return len(self._rows)

    def __iter__(self):
        return iter(self._bases)

    def __eq__(self, other):
        # The free lots are the parts of the bases.
        return isinstance(other, Free) and self._size == other._size and self._bases == other._bases

    def __and__(self, other):
        """A greatest lot that is free in both."""
        demand(is_like_free(self, other), "other")
        return common_lot(self._book, other._book)

    def __or__(self, other):
        """Two lots apart, one free in each, with as many places together as can be."""
        demand(is_like_free(self, other), "other")
        # All lots are free in the book of all words, so nothing but the two binds.
        all_words = lot_book(2, self._size, tuple(range(self._size)))
        return joint_lots(all_words, (self._book, other._book))

    def dual(self):
        """The Free of the checks."""
        return Free(checks_of(self._book))

    def without(self, lot):
        """The Free of the book cut to the rest of the lot."""
        return Free(cut_of(self._book, rest_that_stays(self._size, lot)))

    def beside(self, lot):
        """The Free of the words that have 0 on the lot, cut to its rest."""
        rest = rest_that_stays(self._size, lot)
        return Free(cut_of(within_of(self._book, rest), rest))

    @classmethod
    def of(cls, prime, size, words):
        """The Free of all sums of multiples of the words."""
        return Free(span_of(prime, size, words))


def is_like_free(one, thing):
    """Whether any value is a Free of a book of the size of this one's."""
    return isinstance(thing, Free) and one.book_now[1] == thing.book_now[1]


def rest_that_stays(size, lot):
    """The rest of a lot, which is refused if nothing would stay."""
    demand(is_lot(size, lot) and len(lot) < size, "lot")
    return rest_of(size, lot)
