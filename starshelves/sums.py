"""Sums of rows that are asked for in place of one row."""

from starshelves.askkinds import are_answers, is_letter, is_mark
from starshelves.asking import letters_weighed
from starshelves.demands import demand
from starshelves.errors import Torn
from starshelves.fitting import fitting_word
from starshelves.lots import rest_of
from starshelves.mending import refuse_lost
from starshelves.stockkinds import is_stock


def total_of(hall, stock, weights):
    """The sum of all rows of the stock, each times its weight."""
    demand(is_stock(hall, stock), "stock")
    demand(is_letter(hall, stock, weights), "weights")
    prime, size, _ = hall[0]
    slots = [(row, weight) for file, own in zip(stock, weights) for row, weight in zip(file, own)]
    return tuple([sum([row[place] * weight for row, weight in slots]) % prime for place in range(size)])


def weighed_letters(hall, covers, weights, mark):
    """The letters to all shelves, in order, to which the mark is added times the weight of each slot."""
    # Covers of whatever stock are a stock themselves, of the hall in which hide is kept.
    demand(is_stock(hall[::-1], covers), "covers")
    demand(is_letter(hall, covers, weights), "weights")
    demand(is_mark(hall, mark), "mark")
    return letters_weighed(hall, covers, weights, mark)


def total_by(hall, answers):
    """The word of keep with these digits; Lost if it hangs on other shelves, Torn(()) without one."""
    demand(are_answers(hall, answers), "answers")
    lot = tuple([shelf for shelf, _ in answers])
    refuse_lost(hall, rest_of(hall[0][1], lot))
    word = fitting_word(hall[0], lot, tuple([digit for _, digit in answers]))
    if word is None:
        raise Torn(())
    return word
