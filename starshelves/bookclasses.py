"""Books as objects, and books of the values of polynomials."""

from starshelves.bookchecker import lets_book
from starshelves.bookreadings import book_read
from starshelves.books import checks_of, cut_of, is_part, meet_of, span_of, star_of, sum_of
from starshelves.booktexts import book_text
from starshelves.demands import demand
from starshelves.kinds import is_integer, is_prime, is_some_word, is_word, is_word_in
from starshelves.rows import unit_word


class Book:
    """A book; it never changes."""

    def __init__(self, prime, size, *rows):
        lets_book((prime, size, rows))
        self._form = (prime, size, rows)
        self._rows = rows

    @property
    def form_now(self):
        """The book."""
        return self._form

    @property
    def prime_now(self):
        """Its prime."""
        return self._form[0]

    @property
    def size_now(self):
        """Its size."""
        return self._form[1]

    @property
    def rows_now(self):
        """Its rows."""
        return self._rows

    def __getitem__(self, k):
        """The row with this index."""
        demand(is_integer(k) and 0 <= k < len(self._rows), "k")
        return self._rows[k]

    def __call__(self, lot):
        """The Book cut to the lot."""
        return book_object(cut_of(self._form, lot))

    def __contains__(self, thing):
        """Whether any value is one of the words."""
        return is_word_in(self._form, thing)

    def __len__(self):
        """The rank."""
        return len(self._rows)

    def __iter__(self):
        return iter(self._rows)

    def __str__(self):
        """The lines of the book."""
        return str(book_text(self._form))

    def __eq__(self, other):
        return isinstance(other, Book) and self._form == other._form

    def __invert__(self):
        """The Book of the checks."""
        return book_object(checks_of(self._form))

    def __add__(self, other):
        """The Book of all sums."""
        demand(is_like_object(self, other), "other")
        return book_object(sum_of(self._form, other._form))

    def __and__(self, other):
        """The Book of the words that both have."""
        demand(is_like_object(self, other), "other")
        return book_object(meet_of(self._form, other._form))

    def __mul__(self, other):
        """The Book that is the star of both."""
        demand(is_like_object(self, other), "other")
        return book_object(star_of(self._form, other._form))

    def lies_in(self, other):
        """Whether all words are words of the other Book."""
        demand(is_like_object(self, other), "other")
        return is_part(self._form, other._form)

    @classmethod
    def of(cls, book):
        """The Book of any value that is a book."""
        lets_book(book)
        return book_object(book)

    @classmethod
    def span(cls, prime, size, *words):
        """The Book of all sums of multiples of the words."""
        return book_object(span_of(prime, size, words))

    @classmethod
    def read(cls, text):
        """The Book that the string writes."""
        return book_object(book_read(text))


class Points(Book):
    """The Book of the values at the points of all polynomials of degree below rank."""

    def __init__(self, prime, points, rank):
        demand(is_prime(prime), "prime")
        demand(are_points(prime, points), "points")
        demand(is_integer(rank) and 1 <= rank <= len(points), "rank")
        powers = [values_at(prime, points, unit_word(rank, degree)) for degree in range(rank)]
        size = len(points)
        rows = span_of(prime, size, tuple(powers))[2]
        Book.__init__(self, prime, size, *rows)
        self._points = points

    @property
    def points_now(self):
        """The points, in order."""
        return self._points

    def values_of(self, numbers):
        """The word of the polynomial with these numbers, from the constant one on."""
        demand(is_word(self._form[0], len(self._rows), numbers), "numbers")
        return values_at(self._form[0], self._points, numbers)


def book_object(book):
    """The Book, of the class Book itself, of this book."""
    prime, size, rows = book
    return Book(prime, size, *rows)


def is_like_object(one, thing):
    """Whether any value is a Book of the prime and the size of this one."""
    return isinstance(thing, Book) and one.form_now[:2] == thing.form_now[:2]


def are_points(prime, thing):
    """Whether any value is a nonempty tuple of unlike digits of the prime."""
    return is_some_word(prime, thing) and len(set(thing)) == len(thing)


def value_at(prime, point, numbers):
    """The value at the point of the polynomial with these numbers."""
    total = 0
    for number in numbers[::-1]:
        total = (total * point + number) % prime
    return total


def values_at(prime, points, numbers):
    """The word of the values at all points."""
    return tuple([value_at(prime, point, numbers) for point in points])
