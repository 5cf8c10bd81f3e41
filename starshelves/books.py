"""Books: spanned, checked, multiplied, added, met, searched and cut."""

from starshelves.demands import demand
from starshelves.kinds import is_lot, is_prime, is_size, is_word, is_word_in
from starshelves.lots import rest_of
from starshelves.rows import lead_of, less_times, picked, rows_off, settled, unit_word
from starshelves.words import product_of


def span_of(prime, size, words):
    """The book of all sums of multiples of the words."""
    demand(is_prime(prime), "prime")
    demand(is_size(size), "size")
    demand(isinstance(words, tuple) and all([is_word(prime, size, word) for word in words]), "words")
    return (prime, size, settled(prime, words))


def checks_of(book):
    """The book of all words whose sum of products with each word of the book is 0."""
    prime, size, rows = book
    leads = [lead_of(row) for row in rows]
    words = []
    for place in range(size):
        if place not in leads:
            # What the place brings is taken off where the rows begin, row by row.
            word = list(unit_word(size, place))
            for lead, row in zip(leads, rows):
                word[lead] = -row[place] % prime
            words.append(tuple(word))
    return (prime, size, settled(prime, words))


def demand_like(one, other):
    """Refuse a second book that has not the prime and the size of the first one."""
    demand(one[:2] == other[:2], "other")


def star_of(one, other):
    """The book of all sums of products of a word of the one and a word of the other."""
    demand_like(one, other)
    prime, size, rows = one
    return (prime, size, settled(prime, [product_of(prime, row, more) for row in rows for more in other[2]]))


def sum_of(one, other):
    """The book of all sums of a word of the one and a word of the other."""
    demand_like(one, other)
    prime, size, rows = one
    return (prime, size, settled(prime, rows + other[2]))


def meet_of(one, other):
    """The book of the words that both books have."""
    demand_like(one, other)
    return checks_of(sum_of(checks_of(one), checks_of(other)))


def rank_of(book):
    """How many rows the book has."""
    return len(book[2])


def has_word(book, one):
    """Whether the word is one of the book's words."""
    demand(is_word(book[0], book[1], one), "one")
    return is_word_in(book, one)


def is_part(one, other):
    """Whether all words of the one book are words of the other one."""
    demand_like(one, other)
    return all([is_word_in(other, row) for row in one[2]])


def words_of(book):
    """The set of all words of the book."""
    prime, size, rows = book
    words = [(0,) * size]
    for row in rows:
        words = [less_times(prime, word, digit, row) for word in words for digit in range(prime)]
    return tuple(sorted(words))


def lot_book(prime, size, lot):
    """The book of all words that lie within the lot."""
    return (prime, size, tuple([unit_word(size, place) for place in lot]))


def within_of(book, lot):
    """The book of its words that lie within the lot."""
    prime, size, rows = book
    demand(is_lot(size, lot), "lot")
    return (prime, size, rows_off(prime, rows, rest_of(size, lot)))


def cut_of(book, lot):
    """The book of its words cut to the lot, which is not empty."""
    prime, size, rows = book
    demand(is_lot(size, lot) and len(lot) >= 1, "lot")
    return (prime, len(lot), settled(prime, [picked(row, lot) for row in rows]))
