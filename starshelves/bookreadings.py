"""Books, words and lots read from lines."""

from starshelves.demands import demand
from starshelves.errors import InvalidText
from starshelves.kinds import is_digit, is_prime, is_size
from starshelves.rows import are_settled

MOST_DIGITS = 60


def number_in(word):
    """The number that this word of a line writes; None if it writes none."""
    if not 1 <= len(word) <= MOST_DIGITS or not all([sign in "0123456789" for sign in word]):
        return None
    if word[0] == "0" and len(word) > 1:
        return None
    return int(word)


def digits_in(prime, size, words, line, field):
    """The word of the prime and size that these words of a line write, the first one at the field."""
    digits = [number_in(word) for word in words]
    for k, digit in enumerate(digits):
        if k >= size or not is_digit(prime, digit):
            raise InvalidText(line, field + k)
    if len(digits) < size:
        raise InvalidText(line, field + len(digits))
    return tuple(digits)


def stands_ahead(field, word):
    """Whether the word can stand at the field of the first line of a book."""
    if field == 0:
        return word == "book"
    number = number_in(word)
    return is_prime(number) if field == 1 else field == 2 and is_size(number)


def ahead_in(words, line):
    """The prime and the size that the words of the first line of a book write."""
    for field, word in enumerate(words):
        if not stands_ahead(field, word):
            raise InvalidText(line, field)
    if len(words) < 3:
        raise InvalidText(line, len(words))
    return number_in(words[1]), number_in(words[2])


def row_in(prime, size, words, line):
    """The row that the words of a line write."""
    if words[0] != "row":
        raise InvalidText(line, 0)
    return digits_in(prime, size, words[1:], line, 1)


def book_in(lines, start):
    """The book that these lines write, of which the first one has the index start."""
    prime, size = ahead_in(lines[0].split(" "), start)
    rows = ()
    for k, line in enumerate(lines[1:], start=start + 1):
        rows = (*rows, row_in(prime, size, line.split(" "), k))
        if not are_settled(rows):
            raise InvalidText(k, 0)
    return (prime, size, rows)


def book_read(text):
    """The book that the string writes."""
    demand(isinstance(text, str), "text")
    return book_in(text.split("\n"), 0)


def word_read(prime, size, text):
    """The word of the prime and the size that the string writes."""
    demand(is_prime(prime), "prime")
    demand(is_size(size), "size")
    demand(isinstance(text, str), "text")
    return digits_in(prime, size, text.split(" "), 0, 0)


def lot_read(size, text):
    """The lot of places below size that the string writes."""
    demand(is_size(size), "size")
    demand(isinstance(text, str), "text")
    words = text.split(" ")
    if words[0] == "-":
        if len(words) > 1:
            raise InvalidText(0, 1)
        return ()
    lot = ()
    for field, word in enumerate(words):
        place = number_in(word)
        if place is None or place >= size or place <= max([-1, *lot]):
            raise InvalidText(0, field)
        lot = (*lot, place)
    return lot
