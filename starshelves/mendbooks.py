"""Books whose words show who learns, and which plans read."""

from starshelves.askkinds import is_mark, is_plan
from starshelves.books import star_of
from starshelves.demands import demand
from starshelves.rows import settled
from starshelves.words import product_of


def learning_book(hall, mark):
    """The book, of a place more, of the words of hide with 0 behind them, and of the mark with 1 behind it."""
    demand(is_mark(hall, mark), "mark")
    prime, size, rows = hall[1]
    return (prime, size + 1, settled(prime, [*[(*row, 0) for row in rows], (*mark, 1)]))


def reading_book(hall, plan):
    """The book of what can be answered in all rounds, without silence, with the wanted word behind it."""
    demand(is_plan(hall, plan), "plan")
    prime, size, rows = hall[0]
    many = len(plan)
    longer = []
    for word in star_of(hall[0], hall[1])[2]:
        for turn in range(many):
            longer.append((0,) * (size * turn) + word + (0,) * (size * (many - turn)))
    for row in rows:
        answered = [digit for mark in plan for digit in product_of(prime, mark, row)]
        longer.append((*answered, *row))
    return (prime, size * (many + 1), settled(prime, longer))
