"""Letters to the shelves, and their answers."""

from starshelves.askkinds import is_ask, is_covering, is_letter
from starshelves.demands import demand
from starshelves.kinds import is_lot
from starshelves.stockkinds import is_shelf, is_stock


def sent_digit(prime, slot, ask, cover, shelf):
    """The digit of the letter to the shelf at the slot, which has this cover."""
    asked, mark = ask
    return (cover[shelf] + mark[shelf]) % prime if slot == asked else cover[shelf]


def letter_to(prime, ask, covers, shelf):
    """The letter to the shelf."""
    return tuple([
        tuple([sent_digit(prime, (at, row), ask, cover, shelf) for row, cover in enumerate(file)])
        for at, file in enumerate(covers)
    ])


def all_letters(hall, ask, covers):
    """The letters to all shelves, in order."""
    prime, size, _ = hall[0]
    return tuple([letter_to(prime, ask, covers, shelf) for shelf in range(size)])


def answer_by(prime, stock, shelf, letter):
    """The sum of the shelf's digits, each times that of the letter at its slot."""
    slots = [(row, digit) for file, digits in zip(stock, letter) for row, digit in zip(file, digits)]
    return sum([row[shelf] * digit for row, digit in slots]) % prime


def letters_of(hall, stock, ask, covers):
    """The letters to all shelves, in order."""
    demand(is_stock(hall, stock), "stock")
    demand(is_ask(hall, stock, ask), "ask")
    demand(is_covering(hall, stock, covers), "covers")
    return all_letters(hall, ask, covers)


def answer_of(hall, stock, shelf, letter):
    """The answer of the shelf to the letter."""
    demand(is_stock(hall, stock), "stock")
    demand(is_shelf(hall, shelf), "shelf")
    demand(is_letter(hall, stock, letter), "letter")
    return answer_by(hall[0][0], stock, shelf, letter)


def answers_of(hall, stock, ask, covers, lot):
    """The answers of the lot's shelves to the letters of the ask."""
    letters = letters_of(hall, stock, ask, covers)
    demand(is_lot(hall[0][1], lot), "lot")
    return tuple([(shelf, answer_by(hall[0][0], stock, shelf, letters[shelf])) for shelf in lot])
