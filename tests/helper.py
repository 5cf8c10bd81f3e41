"""What several test files share: examples, odd values, and answers by going through all words."""

import ast
import copy
import importlib
import inspect
import itertools
import random

PRIMES = (2, 3, 5, 7, 11, 13)
KEEP = (5, 4, ((1, 0, 4, 3), (0, 1, 2, 3)))
HIDE = (5, 4, ((1, 1, 1, 1),))
HALL = (KEEP, HIDE)
STOCK = (((1, 2, 3, 4),), ((2, 2, 2, 2),))
PAIRS = (5, 4, ((1, 1, 0, 0), (0, 0, 1, 2)))
TURNED = (5, 4, ((1, 0, 1, 0), (0, 1, 0, 1)))

# The names that the document's examples share.
HEAD = r"""
>>> KEEP = (5, 4, ((1, 0, 4, 3), (0, 1, 2, 3)))
>>> HIDE = (5, 4, ((1, 1, 1, 1),))
>>> HALL = (KEEP, HIDE)
>>> STOCK = (((1, 2, 3, 4),), ((2, 2, 2, 2),))
>>> PAIRS = (5, 4, ((1, 1, 0, 0), (0, 0, 1, 2)))
>>> TURNED = (5, 4, ((1, 0, 1, 0), (0, 1, 0, 1)))
"""

DEEP = ()
for _ in range(29):
    DEEP = (DEEP, True)

# Values of which none is a prime, a size, a word of two digits or more, a lot with a place, a book.
ODD = (
    None, True, False, -1, -(10 ** 59), "", "1", "book 2 1", "0 1", [], [0], [1, 1], [(1, 1)], ["x", []],
    (None,), (True, 1), (1, False), ("1", "0"), ([1], 1), ((1,), (0,)), ((), ()), (-1, 0), (1, 10 ** 59),
    (2, 2), ((1, 1), (1, 1)), DEEP, [DEEP], (2, True, ()), (True, 1, ()), [2, 1, ()],
)

LONG = 10 ** 60 - 1
NO_NUMBERS = (None, True, False, -1, -LONG, "1", (1,), [1], ())
# Values that are none of the kind for the hall and the stock of the examples.
NO_LOTS = (*ODD, 5, "0", [0], (4,), (3, 0), (0, 0), (-1,), (True,), ((0,),), (LONG,))
NO_SHELVES = (None, True, False, -1, 4, LONG, -LONG, "0", (0,), [0])
NO_BOOKS = (
    *ODD, 5, (), KEEP[:2], (*KEEP, 1), list(KEEP), (5, 4, [(1, 1, 1, 1)]), (5, 4, ((2, 0, 0, 0),)), (5, 4, ((0,) * 4,)),
    (5, 4, ((0, 1, 0, 0), (1, 0, 0, 0))), (5, 4, ((1, 1, 0, 0), (0, 1, 0, 0))), (5, 4, ((1, 1, 1),)), (7, 4, ()), (5, 3, ()),
    (5, 5, ()), (5, True, ()), (5, 4, ((True, 0, 0, 0),)),
)
NO_WORDS = (
    *ODD, 5, (), "1 1 0 0", [1, 1, 0, 0], (1, 1, 0), (1, 1, 0, 0, 0), (1, 1, 0, 5), (1, 1, 0, -1), (1, True, 0, 0),
    (1, 1, 0, False), (1, 1, 0, None), (1, 1, 0, "0"), (1, 1, 0, (0,)), ((1, 1, 0, 0),), (LONG, 1, 0, 0),
)
NO_FAMILIES = (
    *ODD, 5, "0", (0,), [], [(0,)], ([0],), ((4,),), ((1, 0),), ((0, 0),), ((1,), (0,)), ((0,), (0,)), ((0,), ()),
    ((0,), (0, 1), (0,)), ((0,), None), ((), (True,)), ((), ("0",)), (((0,),),), ((-1,),), ((1,), (0, 1)),
)
NO_PLANS = (
    *ODD, 5, (), (1, 1, 0, 0), [(1, 1, 0, 0)], ([1, 1, 0, 0],), ((1, 1, 0),), ((1, 1, 0, 0), None), ((1, 1, 0, 0), ()),
    ((1, 1, 0, 0), (1, 1, 0, 5)), ((1, True, 0, 0),), ((1, 1, 0, 0, 0),), (((1, 1, 0, 0),),), "1 1 0 0",
)
NO_STOCKS = (
    *ODD, 5, (), ((),), (((1, 2, 3, 4),), ()), [((1, 2, 3, 4),)], ([(1, 2, 3, 4)],), ((1, 2, 3, 4),), (((1, 2, 3),),),
    (((1, 2, 3, 0),),), (((1, 2, 3, 4), (1, 1, 1, 2)),), (((1, 2, 3, 4),), ((1, 1, 1, True),)), (((1, 2, 3, 5),),),
    (((1, 1, 1, 1),), None),
)
LEFT = (5, 4, ((1, 0, 4, 3),))
NO_LEFTS = (
    *[thing for thing in NO_BOOKS if thing is not None], (5, 4, ((1, 0, 0, 0),)), (5, 4, ((1, 0, 4, 2),)), HALL, 0, "None", False,
    (5, 4, ((1, 0, 4, 3), (0, 1, 2, 0))), (5, 4, ((1, 0, 0, 1), (0, 1, 0, 1), (0, 0, 1, 3))),
)
REFUSED = {"silent": NO_LOTS, "lot": NO_LOTS, "many": NO_NUMBERS, "left": NO_LEFTS}


def fields_of(error):
    """The fields of an error, by name."""
    return dict(vars(error))


def raised(call, *given, **named):
    """The name and the fields of the error that a call raises."""
    try:
        result = call(*given, **named)
    except ValueError as error:
        return error.__class__.__name__, fields_of(error)
    return "no error but", result


def not_usable(name):
    """What raised gives for a parameter that is refused."""
    return "NotUsable", {"word": name, "at": -1}


def invalid(word, at=-1):
    """What raised gives for a paper that is refused."""
    return "InvalidPaper", {"word": word, "at": at}


def shown(value):
    """A value as text, in which True is not 1 and a list is no tuple."""
    return repr(value)


def names_of(call):
    """The names of the parameters of a function."""
    return list(inspect.signature(call).parameters)


def all_words(prime, size):
    """All words, ascending."""
    return list(itertools.product(range(prime), repeat=size))


def lots_below(size):
    """All lots, those of fewer places ahead."""
    return [lot for many in range(size + 1) for lot in itertools.combinations(range(size), many)]


def dot(prime, one, other):
    """The sum of products."""
    return sum(left * right for left, right in zip(one, other)) % prime


def sums_by_hand(prime, size, words):
    """The set of all sums of multiples of words, found one after the other."""
    found = {(0,) * size}
    for word in words:
        if word not in found:
            found = {
                tuple((left + digit * right) % prime for left, right in zip(one, word))
                for one in found for digit in range(prime)
            }
    return found


def words_by_hand(book):
    """The set of all words of a book."""
    return sums_by_hand(*book)


def rank_by_hand(prime, words):
    """The exponent of the prime in the number of words."""
    rank = 0
    while prime ** rank < len(words):
        rank += 1
    return rank


def cut_by_hand(words, lot):
    """The set of these words cut to a lot."""
    return {tuple(word[place] for place in lot) for word in words}


def all_books(prime, size):
    """All books of a prime and a size, by all settled rows."""
    found = []
    for leads in lots_below(size):
        frees = [(k, place) for k, lead in enumerate(leads) for place in range(lead + 1, size) if place not in leads]
        for digits in itertools.product(range(prime), repeat=len(frees)):
            rows = [[1 if place == lead else 0 for place in range(size)] for lead in leads]
            for (k, place), digit in zip(frees, digits):
                rows[k][place] = digit
            found.append((prime, size, tuple(tuple(row) for row in rows)))
    return found


def some_book(chance, prime, size, rank=None, noughts=0):
    """A book by chance, of a rank as near as can be, with so many places that are 0 in all words."""
    rank = chance.randint(0, size) if rank is None else rank
    leads = sorted(chance.sample(range(size), rank))
    dead = [place for place in range(size) if place not in leads][:noughts]
    rows = []
    for lead in leads:
        row = [0] * size
        row[lead] = 1
        for place in range(lead + 1, size):
            if place not in leads and place not in dead:
                row[place] = chance.randrange(prime)
        rows.append(tuple(row))
    return (prime, size, tuple(rows))


def some_word(chance, prime, size):
    """A word by chance."""
    return tuple(chance.randrange(prime) for _ in range(size))


def some_lot(chance, size):
    """A lot by chance."""
    return tuple(place for place in range(size) if chance.random() < 0.5)


def chance_of(seed):
    """A source of chances that are the same each time."""
    return random.Random(seed)


def run_examples(case, text):
    """Run the document's examples: what each gives, shown, has to be the line below it."""
    names = {}
    lines = [line.strip() for line in text.strip().split("\n") if line.strip()]
    for at, line in enumerate(lines):
        if not line.startswith(">>> "):
            continue
        code = line[4:]
        told = lines[at + 1] if at + 1 < len(lines) and not lines[at + 1].startswith(">>> ") else None
        with case.subTest(code=code):
            if told is None:
                exec(code, names)
            elif told.startswith("raises "):
                word, fields = raised(eval, code, names)
                written = ", ".join(f"{name}={value!r}" for name, value in fields.items())
                case.assertEqual(f"{word}({written})", told[len("raises "):])
            else:
                case.assertEqual(repr(eval(code, names)), told)


def defined_names(module):
    """The functions and classes that a module's file itself defines."""
    tree = ast.parse(inspect.getsource(module))
    return [node.name for node in tree.body if isinstance(node, (ast.FunctionDef, ast.ClassDef))]


def check_calls(case, calls):
    """Functions and classes are defined in their file, and take their parameters by place and by name, again and again."""
    for module, name, given in calls:
        with case.subTest(module=module, name=name):
            home = importlib.import_module(f"starshelves.{module}")
            case.assertIn(name, defined_names(home))
            call = getattr(home, name)
            named = [item.name for item in inspect.signature(call).parameters.values() if item.kind != item.VAR_POSITIONAL]
            case.assertEqual(named, list(given))
            before = copy.deepcopy(given)
            result = call(*given.values())
            for other in (call(**given), call(**dict(reversed(given.items()))), call(*given.values())):
                case.assertEqual(other, result)
                case.assertIs(other.__class__, result.__class__)
            case.assertEqual(given, before)


def parameters_of(call):
    """The names of the parameters behind the object's own, those of any number with their star."""
    parameters = [item for item in inspect.signature(call).parameters.values() if item.name not in ("self", "cls")]
    return ["*" + item.name if item.kind == item.VAR_POSITIONAL else item.name for item in parameters]


def check_methods(case, classes):
    """Classes have their methods in their own body; those told as None are properties."""
    for module, name, made_of, told in classes:
        kind = getattr(importlib.import_module(f"starshelves.{module}"), name)
        case.assertEqual(parameters_of(kind), made_of)
        for method, parameters in told.items():
            with case.subTest(name=name, method=method):
                case.assertIn(method, vars(kind))
                if parameters is None:
                    case.assertIsInstance(vars(kind)[method], property)
                else:
                    case.assertEqual(parameters_of(getattr(kind, method)), parameters)


def rest_of(size, lot):
    """All places that are not in the lot."""
    return tuple(place for place in range(size) if place not in lot)


def deals_by_hand(one, others):
    """The most places that can be dealt out to free lots of others, together free in one, by all ways to deal."""
    most = 0
    for deal in itertools.product(range(-1, len(others)), repeat=one[1]):
        lots = [tuple(place for place in range(one[1]) if deal[place] == k) for k in range(len(others))]
        together = tuple(place for place in range(one[1]) if deal[place] >= 0)
        if len(together) > most and all(is_free_by_hand(book, lot) for book, lot in [(one, together), *zip(others, lots)]):
            most = len(together)
    return most


def is_free_by_hand(book, lot):
    """Whether the book cut to the lot has all words, found by adding row after row."""
    rows = [tuple(row[place] for place in lot) for row in book[2]]
    return len(sums_by_hand(book[0], len(lot), rows)) == book[0] ** len(lot)


def some_halls(seed, many=3):
    """Halls of up to eight shelves and five rows a book, over all six primes, with a source of chances."""
    chance = chance_of(seed)
    for prime in PRIMES:
        for _ in range(many):
            size = chance.randint(1, 8)
            keep = some_book(chance, prime, size, chance.randint(1, min(size, 5)), chance.randint(0, 1))
            yield (keep, some_book(chance, prime, size, chance.randint(0, min(size, 5)))), chance


def some_stock(chance, hall):
    """A stock of up to four files of up to three rows each."""
    prime, size, rows = hall[0]
    stock = []
    for _ in range(chance.randint(1, 4)):
        file = []
        for _ in range(chance.randint(1, 3)):
            digits = [chance.randrange(prime) for _ in rows]
            file.append(tuple(sum(d * row[k] for d, row in zip(digits, rows)) % prime for k in range(size)))
        stock.append(tuple(file))
    return tuple(stock)


def rank_of_rows(prime, rows):
    """The rank of the rows, by taking multiples of some off the others."""
    rows = [list(row) for row in rows]
    rank = 0
    for place in range(len(rows[0]) if rows else 0):
        some = [row for row in rows[rank:] if row[place]]
        if some:
            head = some[0]
            at = rows.index(head, rank)
            rows[rank], rows[at] = rows[at], rows[rank]
            for k in range(rank + 1, len(rows)):
                factor = rows[k][place] * pow(head[place], -1, prime)
                rows[k] = [(left - factor * right) % prime for left, right in zip(rows[k], head)]
            rank += 1
    return rank


def is_free_by_rows(book, lot):
    """Whether the book cut to the lot has all words, by the rank of its rows there."""
    return rank_of_rows(book[0], [[row[place] for place in lot] for row in book[2]]) == len(lot)


def small_halls(seed):
    """Halls whose keep has few words, over all six primes, some with shelves that are 0 in all words of it."""
    chance = chance_of(seed)
    for prime in PRIMES:
        for size in range(1, 6):
            rank = chance.randint(1, min(size, 3 if prime < 5 else 2))
            keep = some_book(chance, prime, size, rank, chance.randint(0, 1))
            yield (keep, some_book(chance, prime, size)), chance


def tiny_halls(seed, most=130, many=2):
    """Halls of which all words of the prime and size are at most so many, over all six primes.

    Of each prime and size some have a hide without rows, some one of all words, and some have shelves that are
    0 in all words of keep, or of hide.
    """
    chance = chance_of(seed)
    for prime in PRIMES:
        size = 1
        while prime ** size <= most:
            for rank in (0, size, *[chance.randint(0, size) for _ in range(many)]):
                keep = some_book(chance, prime, size, chance.randint(1, size), chance.randint(0, 1))
                yield (keep, some_book(chance, prime, size, rank, chance.randint(0, 1))), chance
            size += 1


def least(lots):
    """Those of some lots of which no lesser part is among them."""
    return tuple(sorted(lot for lot in lots if not any(set(other) < set(lot) for other in lots)))


def greatest(lots):
    """Those of some lots that are part of no greater one among them."""
    return tuple(sorted(lot for lot in lots if not any(set(lot) < set(other) for other in lots)))


def plus(prime, one, other, digit=1):
    """The word one, and the other word times the digit."""
    return tuple((left + digit * right) % prime for left, right in zip(one, other))


def times_by_hand(prime, one, other):
    """The product of two words, place by place."""
    return tuple(left * right % prime for left, right in zip(one, other))


def some_word_in(chance, book):
    """A word of the book by chance."""
    word = (0,) * book[1]
    for row in book[2]:
        word = plus(book[0], word, row, chance.randrange(book[0]))
    return word


def checks_by_hand(book):
    """The set of all words whose sum of products with each word of the book is 0, by going through all words."""
    prime, size, rows = book
    return {one for one in all_words(prime, size) if not any(dot(prime, one, row) for row in rows)}


def some_covers(chance, hall, stock):
    """Drawn covers for the stock."""
    return tuple(tuple(some_word_in(chance, hall[1]) for _ in file) for file in stock)


def some_slot(chance, stock):
    """A slot of the stock by chance."""
    at = chance.randrange(len(stock))
    return (at, chance.randrange(len(stock[at])))


def lies_within(one, lot):
    """Whether all digits of the word at other places are 0."""
    return all(digit == 0 or place in lot for place, digit in enumerate(one))


def check_refused(case, call, ahead, given, odd):
    """Each parameter is refused for each odd value, alone and with odd ones in place of all behind it.

    ahead has what stands ahead and is never refused, given good values by name, odd those values that are not
    as stated, by name; parameters that are not in odd are never refused.
    """
    names = list(given)
    for at, name in enumerate(names):
        for wrong in odd.get(name, ()):
            alone = {**given, name: wrong}
            further = {other: odd[other][0] for other in names[at + 1:] if other in odd}
            for told in (alone, {**alone, **further}):
                before = shown(told)
                case.assertEqual(raised(call, *ahead, *told.values()), not_usable(name), (name, wrong))
                case.assertEqual(shown(told), before)
            case.assertEqual(raised(call, *ahead, **alone), not_usable(name), (name, wrong))


def some_plan(chance, hall, most=3):
    """A plan by chance: any marks, now and then words of hide or noughts."""
    plan = []
    for _ in range(chance.randint(1, most)):
        mark = some_word(chance, *hall[0][:2])
        plan.append(some_word_in(chance, hall[1]) if chance.random() < 0.1 else mark)
    return tuple(plan)


def some_silences(chance, hall, plan, share=0.15):
    """Silences by chance: now and then none, the same lot in all rounds, or all shelves in one."""
    size = hall[0][1]
    if chance.random() < 0.25:
        return ((),) * len(plan)
    lots = [tuple(place for place in range(size) if chance.random() < share) for _ in plan]
    if chance.random() < 0.1:
        lots[chance.randrange(len(lots))] = tuple(range(size))
    return (lots[0],) * len(lots) if chance.random() < 0.3 else tuple(lots)


def some_plans(seed, most=130, many=2, rounds=3):
    """Tiny halls, each with a plan and silences of it, and a source of chances."""
    for hall, chance in tiny_halls(seed, most, many):
        plan = some_plan(chance, hall, rounds)
        yield hall, plan, some_silences(chance, hall, plan), chance


def great_plans(seed, many=3, rounds=8):
    """Halls of up to eight shelves, each with a plan of up to eight rounds and silences of it."""
    for hall, chance in some_halls(seed, many):
        plan = some_plan(chance, hall, rounds)
        yield hall, plan, some_silences(chance, hall, plan), chance


def star_by_hand(hall):
    """The set of all sums of products of a word of keep and one of hide, by hand."""
    prime, size, rows = hall[0]
    return sums_by_hand(prime, size, [times_by_hand(prime, one, other) for one in rows for other in hall[1][2]])


def leads_by_hand(book):
    """The places at which the rows have their first 1."""
    return [[place for place, digit in enumerate(row) if digit][0] for row in book[2]]


def sent_answers(hall, stock, slot, plan, silences, chance):
    """The answers to asks for the slot with the marks of the plan, drawn covers each time, as [7] tells them."""
    prime, size, _ = hall[0]
    told = []
    for mark, silent in zip(plan, silences):
        covers = some_covers(chance, hall, stock)
        digits = [0] * size
        for at, file in enumerate(stock):
            for row, word in enumerate(file):
                sent = covers[at][row]
                if (at, row) == slot:
                    sent = plus(prime, sent, mark)
                digits = [(digit + left * right) % prime for digit, left, right in zip(digits, word, sent)]
        told.append(tuple((shelf, digits[shelf]) for shelf in range(size) if shelf not in silent))
    return tuple(told)


def lied_answers(prime, answers, liars, chance):
    """The answers, but that the liars answer any digits."""
    return tuple(tuple((shelf, chance.randrange(prime) if shelf in liars else digit) for shelf, digit in part) for part in answers)


def is_blind_by_hand(hall, plan, silences, word, stars):
    """Whether for each round some word of the star, added to the word's product with the mark, lies within the silent lot."""
    prime = hall[0][0]
    for mark, silent in zip(plan, silences):
        product = times_by_hand(prime, word, mark)
        if not any(lies_within(plus(prime, star, product), silent) for star in stars):
            return False
    return True


def explains_by_hand(hall, plan, answers, word, stars, liars):
    """Whether the word explains the answers but for the lot, by going through all words of the star."""
    prime = hall[0][0]
    for mark, part in zip(plan, answers):
        product = times_by_hand(prime, word, mark)
        heard = [(shelf, digit) for shelf, digit in part if shelf not in liars]
        if not any(all((star[shelf] + product[shelf]) % prime == digit for shelf, digit in heard) for star in stars):
            return False
    return True


def point_halls(seed, primes=(5, 7, 11, 13)):
    """Halls of polynomials, of which plans of several rounds read, each with a silent lot."""
    chance = chance_of(seed)
    for prime in primes:
        size = min(prime, 8)
        points = tuple(chance.sample(range(prime), size))
        for kept, hidden in ((1, 1), (2, 1), (3, 2), (4, 1), (4, 2), (5, 1), (5, 3)):
            if kept + hidden <= size:
                hall = tuple(book_of_points(prime, points, rank) for rank in (kept, hidden))
                for many in range(0, size - kept - hidden + 2):
                    yield hall, tuple(sorted(chance.sample(range(size), many))), chance


def book_of_points(prime, points, rank):
    """The book of the values at the points of all polynomials of degree below rank."""
    rows = [[pow(point, degree, prime) for point in points] for degree in range(rank)]
    # The first places, as many as there are rows, are free: so the rows begin there, one after the other.
    for k in range(rank):
        head = next(row for row in rows[k:] if row[k])
        rows[rows.index(head)], rows[k] = rows[k], head
        head = rows[k] = [digit * pow(head[k], -1, prime) % prime for digit in head]
        rows = [row if row is head else [(a - row[k] * b) % prime for a, b in zip(row, head)] for row in rows]
    return (prime, len(points), tuple(tuple(row) for row in rows))


def some_left(chance, hall):
    """A book of words of keep, or None, for keep."""
    if chance.random() < 0.4:
        return None
    prime, size, rows = hall[0]
    words = sums_by_hand(prime, size, [some_word_in(chance, hall[0]) for _ in range(chance.randint(0, min(2, len(rows))))])
    return book_by_hand(prime, size, words)


def book_by_hand(prime, size, words):
    """The book of just these words, a row for each place at which some of them begin."""
    starts = {}
    for one in sorted(words):
        places = [place for place, digit in enumerate(one) if digit]
        if places and one[places[0]] == 1:
            starts.setdefault(places[0], []).append(one)
    rows = [min(starts[place], key=lambda one: [one[other] for other in sorted(starts)]) for place in sorted(starts)]
    return (prime, size, tuple(rows))


def tiny_left(seed, most=130, many=2):
    """Tiny halls, each with a silent lot and a book that is left, and a source of chances."""
    for hall, chance in tiny_halls(seed, most, many):
        silent = some_lot(chance, hall[0][1]) if chance.random() < 0.3 else some_lot(chance, hall[0][1])[:1]
        yield hall, silent, some_left(chance, hall), chance


def great_left(seed, many=4):
    """Halls of up to eight shelves likewise."""
    for hall, chance in some_halls(seed, many):
        left = some_left(chance, hall) if hall[0][0] ** min(2, len(hall[0][2])) < 200 else None
        yield hall, some_lot(chance, hall[0][1])[:chance.randint(0, 3)], left, chance
    for hall, silent, chance in point_halls(seed):
        yield hall, silent, some_left(chance, hall) if chance.random() < 0.3 else None, chance
