"""Letters to the shelves, and their answers."""

from starshelves.askkinds import is_ask, is_covering, is_letter
from starshelves.demands import demand
from starshelves.kinds import is_lot
from starshelves.rows import digit_of_products
from starshelves.stockkinds import is_shelf, is_stock
from starshelves.stocks import dealt_to


def slot_weights(covers, slot):
    """The weights that are 1 at the slot, and 0 elsewhere."""
    return tuple([
        tuple([1 if (at, row) == slot else 0 for row in range(len(file))]) for at, file in enumerate(covers)
    ])


def weighed_letter(prime, covers, weights, mark, shelf):
    """The letter to the shelf, to which the mark is added times the weight of each slot."""
    return tuple([
        tuple([(cover[shelf] + weight * mark[shelf]) % prime for cover, weight in zip(file, own)])
        for file, own in zip(covers, weights)
    ])


def letters_weighed(hall, covers, weights, mark):
    """The letters to all shelves, in order, with the mark times the weights."""
    prime, size, _ = hall[0]
    return tuple([weighed_letter(prime, covers, weights, mark, shelf) for shelf in range(size)])


def all_letters(hall, ask, covers):
    """The letters to all shelves, in order."""
    slot, mark = ask
    return letters_weighed(hall, covers, slot_weights(covers, slot), mark)


def answer_by(prime, dealt, letter):
    """The sum of a shelf's digits, each times that of the letter at its slot."""
    return sum([digit_of_products(prime, own, sent) for own, sent in zip(dealt, letter)]) % prime


def letters_of(hall, stock, ask, covers):
    """The letters to all shelves, in order."""
    demand(is_stock(hall, stock), "stock")
    demand(is_ask(hall, stock, ask), "ask")
    demand(is_covering(hall, stock, covers), "covers")
    return all_letters(hall, ask, covers)


def answer_of(hall, stock, shelf, letter):
    """The answer of the shelf to the letter."""
    demand(is_stock(hall, stock), "stock")
    demand(is_shelf(hall, shelf), "shelf")
    demand(is_letter(hall, stock, letter), "letter")
    return answer_by(hall[0][0], dealt_to(stock, shelf), letter)


def answers_of(hall, stock, ask, covers, lot):
    """The answers of the lot's shelves to the letters of the ask."""
    letters = letters_of(hall, stock, ask, covers)
    demand(is_lot(hall[0][1], lot), "lot")
    return tuple([(shelf, answer_by(hall[0][0], dealt_to(stock, shelf), letters[shelf])) for shelf in lot])
