"""Books, words and lots as lines."""

from starshelves.demands import demand
from starshelves.kinds import is_set_of_numbers, is_some_word


def spaced(numbers):
    """The numbers in decimal, single spaces between."""
    return " ".join([str(number) for number in numbers])


def book_text(book):
    """The lines of the book: prime and size, then each row."""
    prime, size, rows = book
    return "\n".join([f"book {prime} {size}", *[f"row {spaced(row)}" for row in rows]])


def word_text(one):
    """The digits of the word."""
    demand(is_some_word(13, one), "one")
    return spaced(one)


def lot_text(lot):
    """The places of a lot of whatever size; - for none."""
    demand(is_set_of_numbers(lot), "lot")
    return spaced(lot) if len(lot) > 0 else "-"
