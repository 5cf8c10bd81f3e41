"""Halls with a shelf more or less, with shelves in another order, and with words that are scaled."""

from starshelves.books import cut_of, within_of
from starshelves.demands import demand
from starshelves.kinds import is_number, is_tuple_of, is_word
from starshelves.lots import rest_of
from starshelves.rows import picked, settled
from starshelves.stockkinds import is_shelf
from starshelves.words import product_of


def with_place(book, digits):
    """The book with a place more, at the end, at which its rows have these digits."""
    prime, size, rows = book
    return (prime, size + 1, tuple([(*row, digit) for row, digit in zip(rows, digits)]))


def with_shelf(hall, keeps, hides):
    """The hall with a shelf more, at the end, at which the rows have these digits."""
    keep, hide = hall
    demand(is_word(keep[0], len(keep[2]), keeps), "keeps")
    demand(is_word(hide[0], len(hide[2]), hides), "hides")
    return (with_place(keep, keeps), with_place(hide, hides))


def kept_and_cut(book, hide, shelf):
    """The hall in which the book is kept, without the shelf; refuse it if no shelf stays, or no row."""
    rest = rest_of(hide[1], (shelf,))
    demand(len(rest) > 0, "shelf")
    keep = cut_of(book, rest)
    demand(len(keep[2]) > 0, "shelf")
    return (keep, cut_of(hide, rest))


def without_shelf(hall, shelf):
    """The hall cut to all shelves but this one."""
    demand(is_shelf(hall, shelf), "shelf")
    return kept_and_cut(hall[0], hall[1], shelf)


def shortened(hall, shelf):
    """The hall that keeps just the words with 0 at the shelf, without it."""
    demand(is_shelf(hall, shelf), "shelf")
    keep, hide = hall
    return kept_and_cut(within_of(keep, rest_of(keep[1], (shelf,))), hide, shelf)


def is_order(size, thing):
    """Whether any value is a tuple of all places below size, each once."""
    if not is_tuple_of(size, thing) or not all([is_number(place) for place in thing]):
        return False
    return sorted(thing) == list(range(size))


def turned(book, order):
    """The book whose place j is the place order[j] of this one."""
    prime, size, rows = book
    return (prime, size, settled(prime, [picked(row, order) for row in rows]))


def renamed(hall, order):
    """The hall whose place j is the place order[j] of this one."""
    keep, hide = hall
    demand(is_order(keep[1], order), "order")
    return (turned(keep, order), turned(hide, order))


def is_full_word(book, thing):
    """Whether any value is a word of the book's prime and size without 0."""
    return is_word(book[0], book[1], thing) and 0 not in thing


def multiplied(book, word):
    """The book of the products of its words with this one."""
    prime, size, rows = book
    return (prime, size, settled(prime, [product_of(prime, row, word) for row in rows]))


def scaled(hall, keeps, hides):
    """The hall of the products of the words of keep with the one word, of those of hide with the other."""
    keep, hide = hall
    demand(is_full_word(keep, keeps), "keeps")
    demand(is_full_word(hide, hides), "hides")
    return (multiplied(keep, keeps), multiplied(hide, hides))
