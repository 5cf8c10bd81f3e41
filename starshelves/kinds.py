"""Whether any value is of a kind: integers, digits, words, lots and books."""

from starshelves.rows import are_settled, lead_of, reduced

PRIMES = (2, 3, 5, 7, 11, 13)
MOST_OTHERS = 8


def is_integer(thing):
    """Whether any value is an integer; True and False are none."""
    return isinstance(thing, int) and not isinstance(thing, bool)


def is_number(thing):
    """Whether any value is an integer that is at least 0."""
    return is_integer(thing) and thing >= 0


def is_size(thing):
    """Whether any value is an integer from 1 on."""
    return is_integer(thing) and thing >= 1


def is_prime(thing):
    """Whether any value is one of the six primes."""
    return is_integer(thing) and thing in PRIMES


def is_digit(prime, thing):
    """Whether any value is a digit of the prime."""
    return is_number(thing) and thing < prime


def is_tuple_of(many, thing):
    """Whether any value is a tuple of so many elements."""
    return isinstance(thing, tuple) and len(thing) == many


def is_word(prime, size, thing):
    """Whether any value is a word of the prime and the size."""
    return is_tuple_of(size, thing) and all([is_digit(prime, digit) for digit in thing])


def is_some_word(prime, thing):
    """Whether any value is a word of the prime, of whatever size from 1 on."""
    return isinstance(thing, tuple) and len(thing) >= 1 and is_word(prime, len(thing), thing)


def is_set_of_numbers(thing):
    """Whether any value is an ascending tuple of unlike numbers."""
    if not isinstance(thing, tuple) or not all([is_number(number) for number in thing]):
        return False
    return all([left < right for left, right in zip(thing, thing[1:])])


def is_lot(size, thing):
    """Whether any value is a set of places below size."""
    return is_set_of_numbers(thing) and all([place < size for place in thing])


def is_book(thing):
    """Whether any value is a book."""
    if not is_tuple_of(3, thing):
        return False
    prime, size, rows = thing
    if not (is_prime(prime) and is_size(size) and isinstance(rows, tuple)):
        return False
    return all([is_word(prime, size, row) for row in rows]) and are_settled(rows)


def is_like_book(book, thing):
    """Whether any value is a book of the prime and the size of this book."""
    return is_book(thing) and thing[:2] == book[:2]


def is_word_in(book, thing):
    """Whether any value is a word of the book."""
    prime, size, rows = book
    return is_word(prime, size, thing) and lead_of(reduced(prime, rows, thing)) is None


def are_others(size, thing):
    """Whether any value is a tuple of at most eight books of the size."""
    if not isinstance(thing, tuple) or len(thing) > MOST_OTHERS:
        return False
    return all([is_book(book) and book[1] == size for book in thing])


def are_prices(size, thing):
    """Whether any value is a tuple with a number for each place."""
    return is_tuple_of(size, thing) and all([is_number(price) for price in thing])
