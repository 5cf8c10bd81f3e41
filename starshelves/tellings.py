"""What the answers of a plan tell of the wanted word. Nothing is checked here.

A word of the checks of the star that is 0 on the silent lot takes off what the covers brought to the
answers of a round. What is left is a sum of products with the lead digits of the wanted word: its
digits at the places where the rows of keep begin.
"""

from starshelves.books import checks_of, star_of
from starshelves.lots import rest_of
from starshelves.rows import digit_of_products, picked, rows_off, settled


def star_checks(hall):
    """The checks of the hall's star."""
    return checks_of(star_of(hall[0], hall[1]))


def lead_digits(book, word):
    """The digits of a word of the book at the places where its rows begin."""
    return picked(word, [row.index(1) for row in book[2]])


def word_led_by(book, digits):
    """The word of the book with these lead digits."""
    prime, size, rows = book
    return tuple([sum([digit * row[place] for digit, row in zip(digits, rows)]) % prime for place in range(size)])


def round_checks(checks, silences):
    """The pairs of a round and a check that is 0 on its silent lot, for all rows of such checks."""
    prime, _, rows = checks
    heard = {}
    for silent in silences:
        if silent not in heard:
            heard[silent] = rows_off(prime, rows, silent)
    return [(turn, check) for turn, silent in enumerate(silences) for check in heard[silent]]


def told_digits(keep, mark, check):
    """The sum of products with the lead digits that this check leaves of the answers to this mark."""
    weights = [left * right for left, right in zip(mark, check)]
    return tuple([digit_of_products(keep[0], weights, row) for row in keep[2]])


def told_book(keep, checks, plan, silences):
    """The book of the sums of products with the lead digits that the plan tells in spite of the silences."""
    told = [told_digits(keep, plan[turn], check) for turn, check in round_checks(checks, silences)]
    return (keep[0], len(keep[2]), settled(keep[0], told))


def answered_word(size, answers):
    """The digits that were answered, and 0 for those shelves that did not answer."""
    digits = {shelf: digit for shelf, digit in answers}
    return tuple([digits.get(place, 0) for place in range(size)])


def silences_of(size, answers, liars):
    """For each round the lot of the shelves that did not answer, or are among the liars."""
    heard = [[shelf for shelf, _ in part if shelf not in liars] for part in answers]
    return tuple([rest_of(size, lot) for lot in heard])


def told_rows(keep, checks, plan, answers, liars):
    """Settled rows of the sums that the answers tell, those of the liars left out.

    Each has the weights of the lead digits, and behind them what the sum comes to. If the last one has no
    weights, no word of keep has all these sums.
    """
    prime, size, _ = keep
    words = [answered_word(size, part) for part in answers]
    sums = []
    for turn, check in round_checks(checks, silences_of(size, answers, liars)):
        sums.append((*told_digits(keep, plan[turn], check), digit_of_products(prime, check, words[turn])))
    return settled(prime, sums)
