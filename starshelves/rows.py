"""Words of digits, and rows of them in settled form. Nothing that comes in is checked here.

Rows are settled if each has a 1 as its first digit that is not 0, behind that of the row
ahead, and all other rows have 0 at its place. So row.index(1) is where a settled row begins.
"""


def lead_of(one):
    """The first place at which the word is not 0; None in a word of noughts."""
    for place, digit in enumerate(one):
        if digit != 0:
            return place
    return None


def unit_word(size, place):
    """The word with 1 at the place, and 0 elsewhere."""
    return tuple([1 if k == place else 0 for k in range(size)])


def picked(one, lot):
    """The word cut to the lot."""
    return tuple([one[place] for place in lot])


def digit_of_products(prime, one, other):
    """The sum of the products of both words, place by place."""
    return sum([left * right for left, right in zip(one, other)]) % prime


def inverse_of(prime, digit):
    """The digit whose product with this one, which is not 0, is 1."""
    return [other for other in range(1, prime) if digit * other % prime == 1][0]


def less_times(prime, one, digit, other):
    """The word one, less the word other times the digit."""
    return tuple([(left - digit * right) % prime for left, right in zip(one, other)])


def reduced(prime, rows, one):
    """The word, less those multiples of settled rows that leave 0 where each row begins."""
    for row in rows:
        digit = one[row.index(1)]
        if digit != 0:
            one = less_times(prime, one, digit, row)
    return one


def grown(prime, rows, one):
    """The settled rows of all sums of multiples of these settled rows and of one word more."""
    # So many rows have all words: nothing can be added to them.
    if len(rows) == len(one):
        return rows
    rest = reduced(prime, rows, one)
    lead = lead_of(rest)
    if lead is None:
        return rows
    inverse = inverse_of(prime, rest[lead])
    fresh = tuple([inverse * digit % prime for digit in rest])
    others = [less_times(prime, row, row[lead], fresh) for row in rows]
    # A settled row that begins further ahead is the greater one, whatever follows.
    return tuple(sorted([*others, fresh], reverse=True))


def settled(prime, words):
    """The settled rows of all sums of multiples of the words."""
    rows = ()
    for word in words:
        rows = grown(prime, rows, word)
    return rows


def rows_off(prime, rows, lot):
    """The settled rows of those sums of multiples of the rows that are 0 on the lot."""
    longer = settled(prime, [picked(row, lot) + row for row in rows])
    return tuple([row[len(lot):] for row in longer if lead_of(row) >= len(lot)])


def are_settled(rows):
    """Whether these words, all of one size, are settled rows."""
    leads = [lead_of(row) for row in rows]
    if None in leads or leads != sorted(leads):
        return False
    return all([picked(row, leads) == unit_word(len(leads), k) for k, row in enumerate(rows)])
