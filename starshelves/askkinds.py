"""Whether any value is a mark, an ask, a letter, covers, a family or a plan, or answers.

hall is a hall and stock a stock of it throughout.
"""

from starshelves.kinds import is_digit, is_lot, is_tuple_of, is_word, is_word_in
from starshelves.stockkinds import is_dealt, is_slot, shape_of


def is_mark(hall, thing):
    """Whether any value is a word of the hall's prime and size."""
    return is_word(hall[0][0], hall[0][1], thing)


def is_ask(hall, stock, thing):
    """Whether any value is an ask for a slot of the stock."""
    return is_tuple_of(2, thing) and is_slot(stock, thing[0]) and is_mark(hall, thing[1])


def is_cover_file(hall, many, thing):
    """Whether any value is a tuple of so many words of hide."""
    return is_tuple_of(many, thing) and all([is_word_in(hall[1], cover) for cover in thing])


def is_covering(hall, stock, thing):
    """Whether any value is covers for the stock."""
    if not is_tuple_of(len(stock), thing):
        return False
    return all([is_cover_file(hall, many, part) for many, part in zip(shape_of(stock), thing)])


def is_letter(hall, stock, thing):
    """Whether any value is a tuple with, for each file of the stock, a tuple with a digit for each row."""
    return is_dealt(hall[0][0], thing) and shape_of(thing) == shape_of(stock)


def is_family(hall, thing):
    """Whether any value is a set of lots of the hall's shelves."""
    if not isinstance(thing, tuple) or not all([is_lot(hall[0][1], lot) for lot in thing]):
        return False
    return all([left < right for left, right in zip(thing, thing[1:])])


def is_plan(hall, thing):
    """Whether any value is a nonempty tuple of marks."""
    return isinstance(thing, tuple) and len(thing) > 0 and all([is_mark(hall, mark) for mark in thing])


def are_silences(hall, plan, thing):
    """Whether any value is a tuple of a lot for each round of the plan."""
    return is_tuple_of(len(plan), thing) and all([is_lot(hall[0][1], lot) for lot in thing])


def are_answers(hall, thing):
    """Whether any value is a tuple of pairs of a shelf and a digit, ascending by shelf."""
    if not isinstance(thing, tuple) or not all([is_tuple_of(2, pair) for pair in thing]):
        return False
    prime, size, _ = hall[0]
    return is_lot(size, tuple([pair[0] for pair in thing])) and all([is_digit(prime, pair[1]) for pair in thing])


def are_plan_answers(hall, plan, thing):
    """Whether any value is a tuple of answers for each round of the plan."""
    return is_tuple_of(len(plan), thing) and all([are_answers(hall, answers) for answers in thing])
