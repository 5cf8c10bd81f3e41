"""Whether any value is a hall, a file, a stock, a slot or a shelf, or what shelves hold."""

from starshelves.kinds import is_book, is_like_book, is_lot, is_number, is_some_word, is_tuple_of, is_word_in


def is_hall(thing):
    """Whether any value is a hall."""
    if not is_tuple_of(2, thing):
        return False
    keep, hide = thing
    return is_book(keep) and len(keep[2]) > 0 and is_like_book(keep, hide)


def is_file(hall, thing):
    """Whether any value is a file of the hall."""
    return isinstance(thing, tuple) and len(thing) > 0 and all([is_word_in(hall[0], row) for row in thing])


def is_stock(hall, thing):
    """Whether any value is a stock of the hall."""
    return isinstance(thing, tuple) and len(thing) > 0 and all([is_file(hall, file) for file in thing])


def is_slot(stock, thing):
    """Whether any value is a slot of the stock."""
    if not is_tuple_of(2, thing) or not all([is_number(index) for index in thing]):
        return False
    file, row = thing
    return file < len(stock) and row < len(stock[file])


def is_shelf(hall, thing):
    """Whether any value is one of the hall's shelves."""
    return is_number(thing) and thing < hall[0][1]


def is_dealt(prime, thing):
    """Whether any value is what a shelf can hold: for each file a digit of each row."""
    return isinstance(thing, tuple) and len(thing) > 0 and all([is_some_word(prime, digits) for digits in thing])


def shape_of(dealt):
    """How many rows each file has, by what a shelf holds."""
    return tuple([len(digits) for digits in dealt])


def are_dealt_alike(prime, things):
    """Whether all of some values are what shelves can hold of one stock."""
    if not all([is_dealt(prime, thing) for thing in things]):
        return False
    return all([shape_of(thing) == shape_of(things[0]) for thing in things])


def is_all_held(hall, thing):
    """Whether any value is a tuple of what each shelf holds."""
    prime, size, _ = hall[0]
    return is_tuple_of(size, thing) and are_dealt_alike(prime, thing)


def is_some_held(hall, thing):
    """Whether any value is a tuple of pairs of a shelf and what it holds, for some shelves, one at least."""
    if not isinstance(thing, tuple) or len(thing) == 0 or not all([is_tuple_of(2, pair) for pair in thing]):
        return False
    prime, size, _ = hall[0]
    return is_lot(size, tuple([pair[0] for pair in thing])) and are_dealt_alike(prime, [pair[1] for pair in thing])
