"""Words of digits: sums, products, places that are not 0, and words cut to a lot."""

from starshelves.demands import demand
from starshelves.kinds import is_digit, is_lot, is_prime, is_some_word, is_word
from starshelves.rows import digit_of_products, picked


def demand_two_words(prime, one, other):
    """Refuse what is no prime, no word of it, or no other one of the same size."""
    demand(is_prime(prime), "prime")
    demand(is_some_word(prime, one), "one")
    demand(is_word(prime, len(one), other), "other")


def added(prime, one, other):
    """The sum of both words."""
    demand_two_words(prime, one, other)
    return tuple([(left + right) % prime for left, right in zip(one, other)])


def lessened(prime, one, other):
    """The first word less the second one."""
    demand_two_words(prime, one, other)
    return tuple([(left - right) % prime for left, right in zip(one, other)])


def product_of(prime, one, other):
    """The product of both words, place by place."""
    demand_two_words(prime, one, other)
    return tuple([left * right % prime for left, right in zip(one, other)])


def times(prime, digit, one):
    """The word times the digit."""
    demand(is_prime(prime), "prime")
    demand(is_digit(prime, digit), "digit")
    demand(is_some_word(prime, one), "one")
    return tuple([digit * other % prime for other in one])


def sum_of_products(prime, one, other):
    """The digit that is the sum of the products, place by place."""
    demand_two_words(prime, one, other)
    return digit_of_products(prime, one, other)


def demand_word(one):
    """Refuse what is no word of any prime: each such word is one of the greatest."""
    demand(is_some_word(13, one), "one")


def lot_of(one):
    """The places at which the word is not 0."""
    demand_word(one)
    return tuple([place for place, digit in enumerate(one) if digit != 0])


def weight_of(one):
    """At how many places the word is not 0."""
    demand_word(one)
    return len([digit for digit in one if digit != 0])


def cut(one, lot):
    """The word cut to the lot."""
    demand_word(one)
    demand(is_lot(len(one), lot), "lot")
    return picked(one, lot)
