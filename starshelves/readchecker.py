"""The judge of papers on whether a plan reads."""

from starshelves.askkinds import is_plan
from starshelves.books import star_of
from starshelves.errors import InvalidPaper
from starshelves.kinds import is_tuple_of, is_word_in
from starshelves.lots import rest_of
from starshelves.reading import demand_plan
from starshelves.rows import digit_of_products, lead_of, picked
from starshelves.tellings import told_digits


def is_nought_on(one, lot):
    """Whether the word is 0 on the lot."""
    return lead_of(picked(one, lot)) is None


def judge_row(hall, silences, k, words):
    """Refuse words for row k that are not one for each round, heard and free of the star."""
    if not is_plan(hall, words) or len(words) != len(silences):
        raise InvalidPaper("row", k)
    star = star_of(hall[0], hall[1])[2]
    for i, word in enumerate(words):
        if not is_nought_on(word, silences[i]):
            raise InvalidPaper("silent", (k, i))
        if any([digit_of_products(hall[0][0], word, row) != 0 for row in star]):
            raise InvalidPaper("star", (k, i))


def judge_told(hall, plan, k, words):
    """Refuse words for row k whose sum tells something else than its lead digit."""
    prime = hall[0][0]
    told = [told_digits(hall[0], mark, word) for mark, word in zip(plan, words)]
    for j in range(len(hall[0][2])):
        if sum([digits[j] for digits in told]) % prime != (1 if j == k else 0):
            raise InvalidPaper("told", (k, j))


def judge_numbers(hall, plan, silences, numbers):
    """Refuse what are no read-numbers."""
    if len(numbers) != len(hall[0][2]):
        raise InvalidPaper("rows", -1)
    for k, words in enumerate(numbers):
        judge_row(hall, silences, k, words)
        judge_told(hall, plan, k, words)


def judge_blind(hall, plan, silences, word, stars):
    """Refuse what is no blind word, or what are no words of the star that show it."""
    prime, size, _ = hall[0]
    if not is_word_in(hall[0], word) or lead_of(word) is None:
        raise InvalidPaper("word", -1)
    if len(stars) != len(plan):
        raise InvalidPaper("stars", -1)
    book = star_of(hall[0], hall[1])
    for i, star in enumerate(stars):
        if not is_word_in(book, star):
            raise InvalidPaper("star", i)
        answer = [(left + right * digit) % prime for left, right, digit in zip(star, word, plan[i])]
        if not is_nought_on(answer, rest_of(size, silences[i])):
            raise InvalidPaper("silent", i)


def lets_read(hall, plan, silences, thing):
    """Whether the plan reads, by any value that is a paper; InvalidPaper tells why another one is none."""
    demand_plan(hall, plan, silences)
    if is_tuple_of(2, thing) and thing[0] == "read" and isinstance(thing[1], tuple):
        judge_numbers(hall, plan, silences, thing[1])
        return True
    if is_tuple_of(3, thing) and thing[0] == "blind" and isinstance(thing[2], tuple):
        judge_blind(hall, plan, silences, thing[1], thing[2])
        return False
    raise InvalidPaper("shape", -1)
