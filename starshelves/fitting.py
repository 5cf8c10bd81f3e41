"""The word of a book, and the stock of a hall, that fits what some places hold."""

from starshelves.errors import Torn
from starshelves.rows import picked, reduced, settled
from starshelves.stockkinds import shape_of


def rows_by(book, lot):
    """The book's rows settled anew with the lot's places ahead: the digits there tell the word."""
    prime, _, rows = book
    return settled(prime, [picked(row, lot) + row for row in rows])


def word_by(book, longer, digits):
    """The least word of the book that has these digits, by the rows with their places ahead; None without one."""
    prime, size, _ = book
    rest = reduced(prime, longer, digits + (0,) * size)
    if any([digit != 0 for digit in rest[:len(digits)]]):
        return None
    return tuple([-digit % prime for digit in rest[len(digits):]])


def fitting_word(book, lot, digits):
    """The least word of the book that has these digits at the places of the lot; None without one."""
    return word_by(book, rows_by(book, lot), digits)


def some_fitting_stock(hall, lot, parts):
    """The stock of which the shelves of the lot hold these parts; None without one."""
    longer = rows_by(hall[0], lot)
    stock = []
    for at, many in enumerate(shape_of(parts[0])):
        file = [word_by(hall[0], longer, tuple([part[at][row] for part in parts])) for row in range(many)]
        if None in file:
            return None
        stock.append(tuple(file))
    return tuple(stock)


def fitting_stock(hall, lot, parts):
    """The stock of which the shelves of the lot hold these parts; Torn(()) without one."""
    stock = some_fitting_stock(hall, lot, parts)
    if stock is None:
        raise Torn(())
    return stock
