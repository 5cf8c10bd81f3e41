"""What the letters to a lot tell back: which slots, weights and marks they can be for."""

from starshelves.askkinds import is_mark
from starshelves.books import cut_of
from starshelves.demands import demand
from starshelves.kinds import is_lot, is_tuple_of, is_word_in
from starshelves.rows import less_times, picked, reduced
from starshelves.stockkinds import are_dealt_alike, is_slot, shape_of


def is_some_lot(hall, thing):
    """Whether any value is a lot with a shelf."""
    return is_lot(hall[0][1], thing) and len(thing) > 0


def are_letters(hall, lot, thing):
    """Whether any value is a tuple with a letter for each shelf of the lot, all of one shape."""
    return is_tuple_of(len(lot), thing) and are_dealt_alike(hall[0][0], thing)


def demand_letters(hall, lot, letters):
    """Refuse what is no lot with a shelf, or are no letters to it."""
    demand(is_some_lot(hall, lot), "lot")
    demand(are_letters(hall, lot, letters), "letters")


def seen_digits(letters):
    """For each slot, in order, what the letters have there."""
    slots = [(at, row) for at, many in enumerate(shape_of(letters[0])) for row in range(many)]
    return {(at, row): tuple([letter[at][row] for letter in letters]) for at, row in slots}


def fitting_weights(hall, mark, lot, letters):
    """For each slot all weights of the mark for which some cover brings what the letters have there."""
    prime = hall[0][0]
    covers, own = cut_of(hall[1], lot), picked(mark, lot)
    seen = seen_digits(letters)
    return {
        slot: [weight for weight in range(prime) if is_word_in(covers, less_times(prime, seen[slot], weight, own))]
        for slot in seen
    }


def asked_slots(hall, mark, lot, letters):
    """The set of the slots for which these can be the letters, asked for with this mark."""
    demand(is_mark(hall, mark), "mark")
    demand_letters(hall, lot, letters)
    weights = fitting_weights(hall, mark, lot, letters)
    # There are covers alone at all slots but the one that is asked for.
    marked = [slot for slot in weights if 0 not in weights[slot]]
    return tuple([slot for slot in weights if 1 in weights[slot] and all([other == slot for other in marked])])


def weights_by(hall, mark, lot, letters):
    """Weights for which these can be the weighed letters with this mark; None without any."""
    demand(is_mark(hall, mark), "mark")
    demand_letters(hall, lot, letters)
    weights = fitting_weights(hall, mark, lot, letters)
    if not all([len(weights[slot]) > 0 for slot in weights]):
        return None
    return tuple([
        tuple([weights[(at, row)][0] for row in range(many)]) for at, many in enumerate(shape_of(letters[0]))
    ])


def mark_by(hall, lot, letters, slot):
    """The least mark with which these can be the letters, asked for this slot; None without one."""
    demand_letters(hall, lot, letters)
    # A letter has the shape of the stock: a slot of the one is a slot of the other.
    demand(is_slot(letters[0], slot), "slot")
    prime, size, _ = hall[0]
    covers, seen = cut_of(hall[1], lot), seen_digits(letters)
    if not all([is_word_in(covers, seen[other]) for other in seen if other != slot]):
        return None
    # What is left where no row begins is the least of all that differ from it by a cover.
    digits = {place: digit for place, digit in zip(lot, reduced(prime, covers[2], seen[slot]))}
    return tuple([digits.get(place, 0) for place in range(size)])
