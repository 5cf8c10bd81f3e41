"""What several test files share: examples, odd values, and answers by going through all words."""

import ast
import copy
import importlib
import inspect
import itertools
import random

PRIMES = (2, 3, 5, 7, 11, 13)
KEEP = (5, 4, ((1, 0, 4, 3), (0, 1, 2, 3)))
HIDE = (5, 4, ((1, 1, 1, 1),))
HALL = (KEEP, HIDE)
STOCK = (((1, 2, 3, 4),), ((2, 2, 2, 2),))
PAIRS = (5, 4, ((1, 1, 0, 0), (0, 0, 1, 2)))
TURNED = (5, 4, ((1, 0, 1, 0), (0, 1, 0, 1)))

# The names that the document's examples share.
HEAD = r"""
>>> KEEP = (5, 4, ((1, 0, 4, 3), (0, 1, 2, 3)))
>>> HIDE = (5, 4, ((1, 1, 1, 1),))
>>> HALL = (KEEP, HIDE)
>>> STOCK = (((1, 2, 3, 4),), ((2, 2, 2, 2),))
>>> PAIRS = (5, 4, ((1, 1, 0, 0), (0, 0, 1, 2)))
>>> TURNED = (5, 4, ((1, 0, 1, 0), (0, 1, 0, 1)))
"""

DEEP = ()
for _ in range(29):
    DEEP = (DEEP, True)

# Values of which none is a prime, a size, a word of two digits or more, a lot with a place, a book.
ODD = (
    None, True, False, -1, -(10 ** 59), "", "1", "book 2 1", "0 1", [], [0], [1, 1], [(1, 1)], ["x", []],
    (None,), (True, 1), (1, False), ("1", "0"), ([1], 1), ((1,), (0,)), ((), ()), (-1, 0), (1, 10 ** 59),
    (2, 2), ((1, 1), (1, 1)), DEEP, [DEEP], (2, True, ()), (True, 1, ()), [2, 1, ()],
)

LONG = 10 ** 60 - 1
NO_NUMBERS = (None, True, False, -1, -LONG, "1", (1,), [1], ())
# Values that are none of the kind for the hall and the stock of the examples.
NO_LOTS = (*ODD, 5, "0", [0], (4,), (3, 0), (0, 0), (-1,), (True,), ((0,),), (LONG,))
NO_SHELVES = (None, True, False, -1, 4, LONG, -LONG, "0", (0,), [0])
NO_BOOKS = (
    *ODD, 5, (), KEEP[:2], (*KEEP, 1), list(KEEP), (5, 4, [(1, 1, 1, 1)]), (5, 4, ((2, 0, 0, 0),)), (5, 4, ((0,) * 4,)),
    (5, 4, ((0, 1, 0, 0), (1, 0, 0, 0))), (5, 4, ((1, 1, 0, 0), (0, 1, 0, 0))), (5, 4, ((1, 1, 1),)), (7, 4, ()), (5, 3, ()),
    (5, 5, ()), (5, True, ()), (5, 4, ((True, 0, 0, 0),)),
)
NO_WORDS = (
    *ODD, 5, (), "1 1 0 0", [1, 1, 0, 0], (1, 1, 0), (1, 1, 0, 0, 0), (1, 1, 0, 5), (1, 1, 0, -1), (1, True, 0, 0),
    (1, 1, 0, False), (1, 1, 0, None), (1, 1, 0, "0"), (1, 1, 0, (0,)), ((1, 1, 0, 0),), (LONG, 1, 0, 0),
)
NO_FAMILIES = (
    *ODD, 5, "0", (0,), [], [(0,)], ([0],), ((4,),), ((1, 0),), ((0, 0),), ((1,), (0,)), ((0,), (0,)), ((0,), ()),
    ((0,), (0, 1), (0,)), ((0,), None), ((), (True,)), ((), ("0",)), (((0,),),), ((-1,),), ((1,), (0, 1)),
)
NO_PLANS = (
    *ODD, 5, (), (1, 1, 0, 0), [(1, 1, 0, 0)], ([1, 1, 0, 0],), ((1, 1, 0),), ((1, 1, 0, 0), None), ((1, 1, 0, 0), ()),
    ((1, 1, 0, 0), (1, 1, 0, 5)), ((1, True, 0, 0),), ((1, 1, 0, 0, 0),), (((1, 1, 0, 0),),), "1 1 0 0",
)
NO_STOCKS = (
    *ODD, 5, (), ((),), (((1, 2, 3, 4),), ()), [((1, 2, 3, 4),)], ([(1, 2, 3, 4)],), ((1, 2, 3, 4),), (((1, 2, 3),),),
    (((1, 2, 3, 0),),), (((1, 2, 3, 4), (1, 1, 1, 2)),), (((1, 2, 3, 4),), ((1, 1, 1, True),)), (((1, 2, 3, 5),),),
    (((1, 1, 1, 1),), None),
)
LEFT = (5, 4, ((1, 0, 4, 3),))
NO_LEFTS = (
    *[thing for thing in NO_BOOKS if thing is not None], (5, 4, ((1, 0, 0, 0),)), (5, 4, ((1, 0, 4, 2),)), HALL, 0, "None", False,
    (5, 4, ((1, 0, 4, 3), (0, 1, 2, 0))), (5, 4, ((1, 0, 0, 1), (0, 1, 0, 1), (0, 0, 1, 3))),
)
REFUSED = {"silent": NO_LOTS, "lot": NO_LOTS, "many": NO_NUMBERS, "left": NO_LEFTS}


def fields_of(error):
    """The fields of an error, by name."""
    return dict(vars(error))


def raised(call, *given, **named):
    """The name and the fields of the error that a call raises."""
    try:
        result = call(*given, **named)
    except ValueError as error:
        return error.__class__.__name__, fields_of(error)
    return "no error but", result


def not_usable(name):
    """What raised gives for a parameter that is refused."""
    return "NotUsable", {"word": name, "at": -1}


def invalid(word, at=-1):
    """What raised gives for a paper that is refused."""
    return "InvalidPaper", {"word": word, "at": at}


def shown(value):
    """A value as text, in which True is not 1 and a list is no tuple."""
    return repr(value)


def names_of(call):
    """The names of the parameters of a function."""
    return list(inspect.signature(call).parameters)


def all_words(prime, size):
    """All words, ascending."""
    return list(itertools.product(range(prime), repeat=size))


def lots_below(size):
    """All lots, those of fewer places ahead."""
    return [lot for many in range(size + 1) for lot in itertools.combinations(range(size), many)]


def dot(prime, one, other):
    """The sum of products."""
    return sum(left * right for left, right in zip(one, other)) % prime


def sums_by_hand(prime, size, words):
    """The set of all sums of multiples of words, found one after the other."""
    found = {(0,) * size}
    for word in words:
        if word not in found:
            found = {
                tuple((left + digit * right) % prime for left, right in zip(one, word))
                for one in found for digit in range(prime)
            }
    return found


def words_by_hand(book):
    """The set of all words of a book."""
    return sums_by_hand(*book)


def rank_by_hand(prime, words):
    """The exponent of the prime in the number of words."""
    rank = 0
    while prime ** rank < len(words):
        rank += 1
    return rank


def cut_by_hand(words, lot):
    """The set of these words cut to a lot."""
    return {tuple(word[place] for place in lot) for word in words}


def all_books(prime, size):
    """All books of a prime and a size, by all settled rows."""
    found = []
    for leads in lots_below(size):
        frees = [(k, place) for k, lead in enumerate(leads) for place in range(lead + 1, size) if place not in leads]
        for digits in itertools.product(range(prime), repeat=len(frees)):
            rows = [[1 if place == lead else 0 for place in range(size)] for lead in leads]
            for (k, place), digit in zip(frees, digits):
                rows[k][place] = digit
            found.append((prime, size, tuple(tuple(row) for row in rows)))
    return found


def some_book(chance, prime, size, rank=None, noughts=0):
    """A book by chance, of a rank as near as can be, with so many places that are 0 in all words."""
    rank = chance.randint(0, size) if rank is None else rank
    leads = sorted(chance.sample(range(size), rank))
    dead = [place for place in range(size) if place not in leads][:noughts]
    rows = []
    for lead in leads:
        row = [0] * size
        row[lead] = 1
        for place in range(lead + 1, size):
            if place not in leads and place not in dead:
                row[place] = chance.randrange(prime)
        rows.append(tuple(row))
    return (prime, size, tuple(rows))


def some_word(chance, prime, size):
    """A word by chance."""
    return tuple(chance.randrange(prime) for _ in range(size))


def some_lot(chance, size):
    """A lot by chance."""
    return tuple(place for place in range(size) if chance.random() < 0.5)


def chance_of(seed):
    """A source of chances that are the same each time."""
    return random.Random(seed)


def run_examples(case, text):
    """Run the document's examples: what each gives, shown, has to be the line below it."""
    names = {}
    lines = [line.strip() for line in text.strip().split("\n") if line.strip()]
    for at, line in enumerate(lines):
        if not line.startswith(">>> "):
            continue
        code = line[4:]
        told = lines[at + 1] if at + 1 < len(lines) and not lines[at + 1].startswith(">>> ") else None
        with case.subTest(code=code):
            if told is None:
                exec(code, names)
            elif told.startswith("raises "):
                word, fields = raised(eval, code, names)
                written = ", ".join(f"{name}={value!r}" for name, value in fields.items())
                case.assertEqual(f"{word}({written})", told[len("raises "):])
            else:
                case.assertEqual(repr(eval(code, names)), told)


def defined_names(module):
    """The functions and classes that a module's file itself defines."""
    tree = ast.parse(inspect.getsource(module))
    return [node.name for node in tree.body if isinstance(node, (ast.FunctionDef, ast.ClassDef))]


def check_calls(case, calls):
    """Functions and classes are defined in their file, and take their parameters by place and by name, again and again."""
    for module, name, given in calls:
        with case.subTest(module=module, name=name):
            home = importlib.import_module(f"starshelves.{module}")
            case.assertIn(name, defined_names(home))
            call = getattr(home, name)
            named = [item.name for item in inspect.signature(call).parameters.values() if item.kind != item.VAR_POSITIONAL]
            case.assertEqual(named, list(given))
            before = copy.deepcopy(given)
            result = call(*given.values())
            for other in (call(**given), call(**dict(reversed(given.items()))), call(*given.values())):
                case.assertEqual(other, result)
                case.assertIs(other.__class__, result.__class__)
            case.assertEqual(given, before)


def parameters_of(call):
    """The names of the parameters behind the object's own, those of any number with their star."""
    parameters = [item for item in inspect.signature(call).parameters.values() if item.name not in ("self", "cls")]
    return ["*" + item.name if item.kind == item.VAR_POSITIONAL else item.name for item in parameters]


def check_methods(case, classes):
    """Classes have their methods in their own body; those told as None are properties."""
    for module, name, made_of, told in classes:
        kind = getattr(importlib.import_module(f"starshelves.{module}"), name)
        case.assertEqual(parameters_of(kind), made_of)
        for method, parameters in told.items():
            with case.subTest(name=name, method=method):
                case.assertIn(method, vars(kind))
                if parameters is None:
                    case.assertIsInstance(vars(kind)[method], property)
                else:
                    case.assertEqual(parameters_of(getattr(kind, method)), parameters)


def rest_of(size, lot):
    """All places that are not in the lot."""
    return tuple(place for place in range(size) if place not in lot)


def deals_by_hand(one, others):
    """The most places that can be dealt out to free lots of others, together free in one, by all ways to deal."""
    most = 0
    for deal in itertools.product(range(-1, len(others)), repeat=one[1]):
        lots = [tuple(place for place in range(one[1]) if deal[place] == k) for k in range(len(others))]
        together = tuple(place for place in range(one[1]) if deal[place] >= 0)
        if len(together) > most and all(is_free_by_hand(book, lot) for book, lot in [(one, together), *zip(others, lots)]):
            most = len(together)
    return most


def is_free_by_hand(book, lot):
    """Whether the book cut to the lot has all words, found by adding row after row."""
    rows = [tuple(row[place] for place in lot) for row in book[2]]
    return len(sums_by_hand(book[0], len(lot), rows)) == book[0] ** len(lot)


def some_halls(seed, many=3):
    """Halls of up to eight shelves and five rows a book, over all six primes, with a source of chances."""
    chance = chance_of(seed)
    for prime in PRIMES:
        for _ in range(many):
            size = chance.randint(1, 8)
            keep = some_book(chance, prime, size, chance.randint(1, min(size, 5)), chance.randint(0, 1))
            yield (keep, some_book(chance, prime, size, chance.randint(0, min(size, 5)))), chance


def some_stock(chance, hall):
    """A stock of up to four files of up to three rows each."""
    prime, size, rows = hall[0]
    stock = []
    for _ in range(chance.randint(1, 4)):
        file = []
        for _ in range(chance.randint(1, 3)):
            digits = [chance.randrange(prime) for _ in rows]
            file.append(tuple(sum(d * row[k] for d, row in zip(digits, rows)) % prime for k in range(size)))
        stock.append(tuple(file))
    return tuple(stock)


def rank_of_rows(prime, rows):
    """The rank of the rows, by taking multiples of some off the others."""
    rows = [list(row) for row in rows]
    rank = 0
    for place in range(len(rows[0]) if rows else 0):
        some = [row for row in rows[rank:] if row[place]]
        if some:
            head = some[0]
            at = rows.index(head, rank)
            rows[rank], rows[at] = rows[at], rows[rank]
            for k in range(rank + 1, len(rows)):
                factor = rows[k][place] * pow(head[place], -1, prime)
                rows[k] = [(left - factor * right) % prime for left, right in zip(rows[k], head)]
            rank += 1
    return rank


def is_free_by_rows(book, lot):
    """Whether the book cut to the lot has all words, by the rank of its rows there."""
    return rank_of_rows(book[0], [[row[place] for place in lot] for row in book[2]]) == len(lot)


def small_halls(seed):
    """Halls whose keep has few words, over all six primes, some with shelves that are 0 in all words of it."""
    chance = chance_of(seed)
    for prime in PRIMES:
        for size in range(1, 6):
            rank = chance.randint(1, min(size, 3 if prime < 5 else 2))
            keep = some_book(chance, prime, size, rank, chance.randint(0, 1))
            yield (keep, some_book(chance, prime, size)), chance


def tiny_halls(seed, most=130, many=2):
    """Halls of which all words of the prime and size are at most so many, over all six primes.

    Of each prime and size some have a hide without rows, some one of all words, and some have shelves that are
    0 in all words of keep, or of hide.
    """
    chance = chance_of(seed)
    for prime in PRIMES:
        size = 1
        while prime ** size <= most:
            for rank in (0, size, *[chance.randint(0, size) for _ in range(many)]):
                keep = some_book(chance, prime, size, chance.randint(1, size), chance.randint(0, 1))
                yield (keep, some_book(chance, prime, size, rank, chance.randint(0, 1))), chance
            size += 1


def least(lots):
    """Those of some lots of which no lesser part is among them."""
    return tuple(sorted(lot for lot in lots if not any(set(other) < set(lot) for other in lots)))


def greatest(lots):
    """Those of some lots that are part of no greater one among them."""
    return tuple(sorted(lot for lot in lots if not any(set(lot) < set(other) for other in lots)))


def plus(prime, one, other, digit=1):
    """The word one, and the other word times the digit."""
    return tuple((left + digit * right) % prime for left, right in zip(one, other))


def times_by_hand(prime, one, other):
    """The product of two words, place by place."""
    return tuple(left * right % prime for left, right in zip(one, other))


def some_word_in(chance, book):
    """A word of the book by chance."""
    word = (0,) * book[1]
    for row in book[2]:
        word = plus(book[0], word, row, chance.randrange(book[0]))
    return word


def checks_by_hand(book):
    """The set of all words whose sum of products with each word of the book is 0, by going through all words."""
    prime, size, rows = book
    return {one for one in all_words(prime, size) if not any(dot(prime, one, row) for row in rows)}


def some_covers(chance, hall, stock):
    """Drawn covers for the stock."""
    return tuple(tuple(some_word_in(chance, hall[1]) for _ in file) for file in stock)


def some_slot(chance, stock):
    """A slot of the stock by chance."""
    at = chance.randrange(len(stock))
    return (at, chance.randrange(len(stock[at])))


def lies_within(one, lot):
    """Whether all digits of the word at other places are 0."""
    return all(digit == 0 or place in lot for place, digit in enumerate(one))


def check_refused(case, call, ahead, given, odd):
    """Each parameter is refused for each odd value, alone and with odd ones in place of all behind it.

    ahead has what stands ahead and is never refused, given good values by name, odd those values that are not
    as stated, by name; parameters that are not in odd are never refused.
    """
    names = list(given)
    for at, name in enumerate(names):
        for wrong in odd.get(name, ()):
            alone = {**given, name: wrong}
            further = {other: odd[other][0] for other in names[at + 1:] if other in odd}
            for told in (alone, {**alone, **further}):
                before = shown(told)
                case.assertEqual(raised(call, *ahead, *told.values()), not_usable(name), (name, wrong))
                case.assertEqual(shown(told), before)
            case.assertEqual(raised(call, *ahead, **alone), not_usable(name), (name, wrong))


def some_plan(chance, hall, most=3):
    """A plan by chance: any marks, now and then words of hide or noughts."""
    plan = []
    for _ in range(chance.randint(1, most)):
        mark = some_word(chance, *hall[0][:2])
        plan.append(some_word_in(chance, hall[1]) if chance.random() < 0.1 else mark)
    return tuple(plan)


def some_silences(chance, hall, plan, share=0.15):
    """Silences by chance: now and then none, the same lot in all rounds, or all shelves in one."""
    size = hall[0][1]
    if chance.random() < 0.25:
        return ((),) * len(plan)
    lots = [tuple(place for place in range(size) if chance.random() < share) for _ in plan]
    if chance.random() < 0.1:
        lots[chance.randrange(len(lots))] = tuple(range(size))
    return (lots[0],) * len(lots) if chance.random() < 0.3 else tuple(lots)


def some_plans(seed, most=130, many=2, rounds=3):
    """Tiny halls, each with a plan and silences of it, and a source of chances."""
    for hall, chance in tiny_halls(seed, most, many):
        plan = some_plan(chance, hall, rounds)
        yield hall, plan, some_silences(chance, hall, plan), chance


def great_plans(seed, many=3, rounds=8):
    """Halls of up to eight shelves, each with a plan of up to eight rounds and silences of it."""
    for hall, chance in some_halls(seed, many):
        plan = some_plan(chance, hall, rounds)
        yield hall, plan, some_silences(chance, hall, plan), chance


def star_by_hand(hall):
    """The set of all sums of products of a word of keep and one of hide, by hand."""
    prime, size, rows = hall[0]
    return sums_by_hand(prime, size, [times_by_hand(prime, one, other) for one in rows for other in hall[1][2]])


def leads_by_hand(book):
    """The places at which the rows have their first 1."""
    return [[place for place, digit in enumerate(row) if digit][0] for row in book[2]]


def sent_answers(hall, stock, slot, plan, silences, chance):
    """The answers to asks for the slot with the marks of the plan, drawn covers each time, as [7] tells them."""
    prime, size, _ = hall[0]
    told = []
    for mark, silent in zip(plan, silences):
        covers = some_covers(chance, hall, stock)
        digits = [0] * size
        for at, file in enumerate(stock):
            for row, word in enumerate(file):
                sent = covers[at][row]
                if (at, row) == slot:
                    sent = plus(prime, sent, mark)
                digits = [(digit + left * right) % prime for digit, left, right in zip(digits, word, sent)]
        told.append(tuple((shelf, digits[shelf]) for shelf in range(size) if shelf not in silent))
    return tuple(told)


def lied_answers(prime, answers, liars, chance):
    """The answers, but that the liars answer any digits."""
    return tuple(tuple((shelf, chance.randrange(prime) if shelf in liars else digit) for shelf, digit in part) for part in answers)


def is_blind_by_hand(hall, plan, silences, word, stars):
    """Whether for each round some word of the star, added to the word's product with the mark, lies within the silent lot."""
    prime = hall[0][0]
    for mark, silent in zip(plan, silences):
        product = times_by_hand(prime, word, mark)
        if not any(lies_within(plus(prime, star, product), silent) for star in stars):
            return False
    return True


def explains_by_hand(hall, plan, answers, word, stars, liars):
    """Whether the word explains the answers but for the lot, by going through all words of the star."""
    prime = hall[0][0]
    for mark, part in zip(plan, answers):
        product = times_by_hand(prime, word, mark)
        heard = [(shelf, digit) for shelf, digit in part if shelf not in liars]
        if not any(all((star[shelf] + product[shelf]) % prime == digit for shelf, digit in heard) for star in stars):
            return False
    return True


def point_halls(seed, primes=(5, 7, 11, 13)):
    """Halls of polynomials, of which plans of several rounds read, each with a silent lot."""
    chance = chance_of(seed)
    for prime in primes:
        size = min(prime, 8)
        points = tuple(chance.sample(range(prime), size))
        for kept, hidden in ((1, 1), (2, 1), (3, 2), (4, 1), (4, 2), (5, 1), (5, 3)):
            if kept + hidden <= size:
                hall = tuple(book_of_points(prime, points, rank) for rank in (kept, hidden))
                for many in range(0, size - kept - hidden + 2):
                    yield hall, tuple(sorted(chance.sample(range(size), many))), chance


def book_of_points(prime, points, rank):
    """The book of the values at the points of all polynomials of degree below rank."""
    rows = [[pow(point, degree, prime) for point in points] for degree in range(rank)]
    # The first places, as many as there are rows, are free: so the rows begin there, one after the other.
    for k in range(rank):
        head = next(row for row in rows[k:] if row[k])
        rows[rows.index(head)], rows[k] = rows[k], head
        head = rows[k] = [digit * pow(head[k], -1, prime) % prime for digit in head]
        rows = [row if row is head else [(a - row[k] * b) % prime for a, b in zip(row, head)] for row in rows]
    return (prime, len(points), tuple(tuple(row) for row in rows))


def some_left(chance, hall):
    """A book of words of keep, or None, for keep."""
    if chance.random() < 0.4:
        return None
    prime, size, rows = hall[0]
    words = sums_by_hand(prime, size, [some_word_in(chance, hall[0]) for _ in range(chance.randint(0, min(2, len(rows))))])
    return book_by_hand(prime, size, words)


def book_by_hand(prime, size, words):
    """The book of just these words, a row for each place at which some of them begin."""
    starts = {}
    for one in sorted(words):
        places = [place for place, digit in enumerate(one) if digit]
        if places and one[places[0]] == 1:
            starts.setdefault(places[0], []).append(one)
    rows = [min(starts[place], key=lambda one: [one[other] for other in sorted(starts)]) for place in sorted(starts)]
    return (prime, size, tuple(rows))


def tiny_left(seed, most=130, many=2):
    """Tiny halls, each with a silent lot and a book that is left, and a source of chances."""
    for hall, chance in tiny_halls(seed, most, many):
        silent = some_lot(chance, hall[0][1]) if chance.random() < 0.3 else some_lot(chance, hall[0][1])[:1]
        yield hall, silent, some_left(chance, hall), chance


def great_left(seed, many=4):
    """Halls of up to eight shelves likewise."""
    for hall, chance in some_halls(seed, many):
        left = some_left(chance, hall) if hall[0][0] ** min(2, len(hall[0][2])) < 200 else None
        yield hall, some_lot(chance, hall[0][1])[:chance.randint(0, 3)], left, chance
    for hall, silent, chance in point_halls(seed):
        yield hall, silent, some_left(chance, hall) if chance.random() < 0.3 else None, chance


def is_form_by_hand(kind, thing):
    """Whether any value is of a kind: a number, a pair of numbers, or nonempty tuples of numbers, of these, of those."""
    if kind == "number":
        return thing.__class__ is int and thing >= 0
    if kind == "pair":
        return thing.__class__ is tuple and len(thing) == 2 and all(is_form_by_hand("number", part) for part in thing)
    inner = {"word": "number", "rows": "word", "files": "rows"}[kind]
    return thing.__class__ is tuple and len(thing) > 0 and all(is_form_by_hand(inner, part) for part in thing)


EVENT_PARTS = {
    "put": ("rows",), "drop": ("number",), "lose": ("number",), "mend": ("number",), "answer": ("number",), "write": ("pair", "word"),
    "spoil": ("number", "pair", "number"), "close": (), "ask": ("pair", "rows", "files"),
}


def is_event_by_hand(thing):
    """Whether any value is an event by form."""
    if thing.__class__ is not tuple or not thing or thing[0].__class__ is not str or thing[0] not in EVENT_PARTS:
        return False
    parts = EVENT_PARTS[thing[0]]
    if len(thing) != len(parts) + 1:
        return False
    if thing[0] != "ask":
        return all(is_form_by_hand(kind, part) for kind, part in zip(parts, thing[1:]))
    _, slot, plan, covers = thing
    if not is_form_by_hand("pair", slot) or not is_form_by_hand("rows", plan) or covers.__class__ is not tuple:
        return False
    return len(covers) == len(plan) and all(is_form_by_hand("files", files) for files in covers)


class Model:
    """A live hall followed by hand, of a hall of few words: each event changes lists in place."""

    def __init__(self, hall, most=40):
        self.hall, self.most, self.is_shut = hall, most, False
        self.words, self.hides = words_by_hand(hall[0]), words_by_hand(hall[1])
        self.files, self.held = [], [[] for _ in range(hall[0][1])]
        self.asked, self.heard = None, {}
        self.events, self.formers = [], []
        self.menders = {}

    def menders_of(self, shelf):
        """The least lots of other shelves at all of which no word is 0 that is not 0 at the shelf, in order."""
        if shelf not in self.menders:
            others = [lot for lot in lots_below(self.hall[0][1]) if shelf not in lot]
            lots = [lot for lot in others if not any(word[shelf] and not any(word[place] for place in lot) for word in self.words)]
            self.menders[shelf] = least(lots)
        return self.menders[shelf]

    def usable_menders(self, shelf):
        """Those of them without a lost shelf."""
        return [lot for lot in self.menders_of(shelf) if not any(self.held[other] is None for other in lot)]

    def is_slot(self, slot):
        return slot[0] < len(self.files) and slot[1] < len(self.files[slot[0]])

    def are_covers(self, files):
        """Whether these are covers for the files."""
        fits = [len(part) for part in files] == [len(file) for file in self.files]
        return fits and all(cover in self.hides for part in files for cover in part)

    def reasons(self, event):
        """All reasons that apply, in the order of the document."""
        if not is_event_by_hand(event):
            return ["shape"]
        prime, size, _ = self.hall[0]
        word, parts, told = event[0], event[1:], []
        told += ["closed"] * self.is_shut + ["full"] * (len(self.events) >= self.most)
        told += ["asking"] * (self.asked is not None and word in ("put", "drop", "write", "mend", "spoil", "ask"))
        told += ["idle"] * (self.asked is None and word in ("answer", "close"))
        if word in ("lose", "mend", "spoil", "answer"):
            if parts[0] >= size:
                told += ["shelf"]
            elif word == "mend":
                told += ["whole"] * (self.held[parts[0]] is not None) + ["alone"] * (not self.usable_menders(parts[0]))
            else:
                told += ["lost"] * (self.held[parts[0]] is None)
        if word == "put":
            told += ["file"] * (len(parts[0]) > 3 or not all(row in self.words for row in parts[0])) + ["many"] * (len(self.files) == 4)
        if word == "drop":
            told += ["file"] * (parts[0] >= len(self.files))
        if word in ("write", "spoil", "ask"):
            told += ["slot"] * (not self.is_slot(parts[1] if word == "spoil" else parts[0]))
        if word == "write":
            told += ["word"] * (parts[1] not in self.words)
        if word == "spoil":
            told += ["digit"] * (parts[2] >= prime)
        if word == "ask":
            marks = all(len(mark) == size and all(digit < prime for digit in mark) for mark in parts[1])
            told += ["plan"] * (not marks or len(parts[1]) > 8) + ["covers"] * (not all(self.are_covers(files) for files in parts[2]))
        return told + ["again"] * (word == "answer" and parts[0] in self.heard)

    def apply(self, event):
        """Apply an event that is not refused."""
        self.formers.append(copy.deepcopy((self.files, self.held, self.asked, self.heard)))
        self.events.append(event)
        getattr(self, "do_" + event[0])(*event[1:])

    def undo(self):
        """Take the last event back."""
        self.files, self.held, self.asked, self.heard = self.formers.pop()
        return self.events.pop()

    def do_put(self, rows):
        self.files.append(list(rows))
        for shelf, dealt in enumerate(self.held):
            if dealt is not None:
                dealt.append([row[shelf] for row in rows])

    def do_drop(self, k):
        del self.files[k]
        for dealt in self.held:
            if dealt is not None:
                del dealt[k]

    def do_write(self, slot, word):
        self.files[slot[0]][slot[1]] = word
        for shelf, dealt in enumerate(self.held):
            if dealt is not None:
                dealt[slot[0]][slot[1]] = word[shelf]

    def do_lose(self, shelf):
        self.held[shelf] = None

    def do_mend(self, shelf):
        lot = self.usable_menders(shelf)[0]
        self.held[shelf] = [[self.follows(lot, shelf, at, row) for row in range(len(file))] for at, file in enumerate(self.files)]

    def follows(self, lot, shelf, at, row):
        """The shelf's digit of those words that have what the lot holds at the slot: of all the same."""
        digits = {word[shelf] for word in self.words if all(word[other] == self.held[other][at][row] for other in lot)}
        (digit,) = digits
        return digit

    def do_spoil(self, shelf, slot, digit):
        self.held[shelf][slot[0]][slot[1]] = digit

    def do_ask(self, slot, plan, covers):
        self.asked, self.heard = (slot, plan, covers), {}

    def do_answer(self, shelf):
        prime, (slot, plan, covers) = self.hall[0][0], self.asked
        self.heard[shelf] = []
        for mark, files in zip(plan, covers):
            total = 0
            for at, file in enumerate(self.held[shelf]):
                for row, digit in enumerate(file):
                    total += digit * (files[at][row][shelf] + (mark[shelf] if (at, row) == slot else 0))
            self.heard[shelf].append(total % prime)

    def do_close(self):
        self.asked, self.heard = None, {}

    def files_now(self):
        return tuple(tuple(file) for file in self.files)

    def held_now(self):
        return tuple(None if dealt is None else tuple(tuple(part) for part in dealt) for dealt in self.held)

    def lost_now(self):
        return tuple(shelf for shelf, dealt in enumerate(self.held) if dealt is None)

    def spoilt_now(self):
        """The shelves that hold something else than they ought to."""
        ought = [[[row[shelf] for row in file] for file in self.files] for shelf in range(len(self.held))]
        return tuple(shelf for shelf, dealt in enumerate(self.held) if dealt is not None and dealt != ought[shelf])

    def answers(self):
        """Those so far, round by round."""
        if self.asked is None:
            return None
        return tuple(tuple((shelf, self.heard[shelf][turn]) for shelf in sorted(self.heard)) for turn in range(len(self.asked[1])))


def drawn_word(chance, words, prime, size):
    """One of the words, now and then any word, of whatever size and digits."""
    if chance.random() < 0.93:
        return chance.choice(words)
    return tuple(chance.randrange(prime + 1) for _ in range(chance.choice((size, size, size + 1, 1))))


def drawn_covers(chance, model, plan):
    """Covers for each word of a plan, now and then for other files."""
    prime, size, _ = model.hall[0]
    hides, told = sorted(model.hides), []
    for _ in plan:
        many = [len(file) for file in model.files] or [1]
        if chance.random() < 0.03:
            many = many + [1]
        told.append(tuple(tuple(drawn_word(chance, hides, prime, size) for _ in range(rows)) for rows in many))
    return tuple(told)


def drawn_event(chance, model):
    """An event by form by chance, most of which can be."""
    prime, size, _ = model.hall[0]
    keeps = sorted(model.words)
    kinds = ("put", "drop", "write", "lose", "mend", "spoil", "ask", "ask", "put") if model.asked is None else ("answer",) * 8 + ("close", "lose")
    word = chance.choice(kinds) if chance.random() < 0.95 else chance.choice(sorted(EVENT_PARTS))
    shelf = chance.randrange(size) if chance.random() < 0.95 else chance.choice((size, size + 1, 10 ** 59))
    file = chance.randrange(len(model.files)) if model.files and chance.random() < 0.95 else chance.randrange(5)
    row = chance.randrange(len(model.files[file])) if file < len(model.files) and chance.random() < 0.95 else chance.randrange(4)
    if word == "mend" and model.lost_now() and chance.random() < 0.8:
        shelf = chance.choice(model.lost_now())
    if word == "put":
        return (word, tuple(drawn_word(chance, keeps, prime, size) for _ in range(chance.choice((1, 1, 2, 2, 3, 3, 3, 4)))))
    if word == "write":
        return (word, (file, row), drawn_word(chance, keeps, prime, size))
    if word == "spoil":
        return (word, shelf, (file, row), chance.randrange(prime) if chance.random() < 0.95 else prime)
    if word == "ask":
        plan = tuple(drawn_word(chance, all_words(prime, size), prime, size) for _ in range(chance.choice((1, 1, 2, 2, 3, 3, 9 if chance.random() < 0.1 else 8))))
        return (word, (file, row), plan, drawn_covers(chance, model, plan))
    if word == "close":
        return (word,)
    return (word, file if word == "drop" else shelf)


def live_halls(seed):
    """Halls of few words, over all six primes, and that of the examples, with a source of chances."""
    chance = chance_of(seed)
    yield HALL, chance
    for hall, _ in small_halls(seed):
        if hall[0][0] ** hall[0][1] <= 3000 and hall[0][0] ** len(hall[1][2]) <= 400:
            yield hall, chance


NO_EVENTS = (
    *ODD, 5, (), "put", "close", ["close"], ("close", ()), ("close", 0), ("shut",), ("undo",), (("close",),), ("put",), ("put", ()), ("put", ((),)), ("put", (1, 2)),
    ("put", [(1, 1)]), ("put", ([1, 1],)), ("put", ((1, -1),)), ("put", ((1, True),)), ("put", ((1, 1),), 0), ("drop",), ("drop", -1), ("drop", True), ("drop", None),
    ("drop", (0,)), ("drop", "0"), ("lose", False), ("lose", 0, 0), ("mend", None), ("answer", [0]), ("answer",), ("write", (0, 0)), ("write", (0,), (1,)),
    ("write", [0, 0], (1,)), ("write", (0, 0, 0), (1,)), ("write", (0, 0), ()), ("write", (0, 0), 1), ("write", (0, True), (1,)), ("write", (0, 0), [1]),
    ("write", (0, -1), (1,)), ("spoil", 0, (0, 0)), ("spoil", 0, 0, 0), ("spoil", (0, 0), 0, 0), ("spoil", True, (0, 0), 0), ("spoil", 0, (0, 0), -1),
    ("spoil", 0, (0, 0), (0,)), ("spoil", 0, (0, 0), 0, 0), ("ask", (0, 0), ((1,),)), ("ask", (0, 0), (), ()), ("ask", (0, 0), ((),), ((((1,),),),)),
    ("ask", (0, 0), ((1,),), ()), ("ask", (0, 0), ((1,),), ((),)), ("ask", (0, 0), ((1,),), (((),),)), ("ask", (0, 0), ((1,),), ((((),),),)),
    ("ask", (0, 0), ((1,),), ((((1,),),), (((1,),),))), ("ask", (0, 0), ((1,), (1,)), ((((1,),),),)), ("ask", 0, ((1,),), ((((1,),),),)),
    ("ask", (0, 0), ((1,),), [(((1,),),)]), ("ask", (0, 0), ((True,),), ((((1,),),),)), ("ask", (0, 0), ((1,),), ((((None,),),),)),
    ("ask", (0, 0), ((1,),), (((1,),),)), (True, 0), (None,), (0, 0), ("Put", ((1,),)), ("put ", ((1,),)), (["put"], ((1,),)), (("drop", 0),),
)
