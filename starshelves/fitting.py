"""The word of a book, and the stock of a hall, that fits what some places hold."""

from starshelves.errors import Torn
from starshelves.rows import picked, reduced, settled
from starshelves.stockkinds import shape_of


def fitting_word(book, lot, digits):
    """The least word of the book that has these digits at the places of the lot; None without one."""
    prime, size, rows = book
    # Settled with the lot's places ahead, the rows tell the word by these digits alone.
    longer = settled(prime, [picked(row, lot) + row for row in rows])
    rest = reduced(prime, longer, digits + (0,) * size)
    if any([digit != 0 for digit in rest[:len(lot)]]):
        return None
    return tuple([-digit % prime for digit in rest[len(lot):]])


def fitting_stock(hall, lot, parts):
    """The stock of which the shelves of the lot hold these parts; Torn(()) without one."""
    stock = []
    for file, many in enumerate(shape_of(parts[0])):
        rows = [fitting_word(hall[0], lot, tuple([part[file][row] for part in parts])) for row in range(many)]
        if None in rows:
            raise Torn(())
        stock.append(tuple(rows))
    return tuple(stock)
