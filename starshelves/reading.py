"""Which plans read in spite of silent shelves, by what, and to which words they are blind."""

from starshelves.askkinds import are_silences, is_plan
from starshelves.books import checks_of, star_of
from starshelves.demands import demand
from starshelves.errors import Unreadable
from starshelves.fitting import fitting_word
from starshelves.lots import rest_of
from starshelves.rows import grown, lead_of, reduced, settled
from starshelves.tellings import round_checks, star_checks, told_book, told_digits, word_led_by


def demand_plan(hall, plan, silences):
    """Refuse what is no plan, or what are no silences of it."""
    demand(is_plan(hall, plan), "plan")
    demand(are_silences(hall, plan, silences), "silences")


def told_sums(hall, plan, silences):
    """The book of the words whose sum of products with the lead digits of each blind word is 0."""
    demand_plan(hall, plan, silences)
    return told_book(hall[0], star_checks(hall), plan, silences)


def told_rank(hall, plan, silences):
    """What the plan tells."""
    return len(told_sums(hall, plan, silences)[2])


def reads(hall, plan, silences):
    """Whether the plan reads in spite of the silences."""
    return told_rank(hall, plan, silences) == len(hall[0][2])


def blind_book(hall, plan, silences):
    """The book of the words that are blind for the plan and the silences."""
    prime, size, _ = hall[0]
    unseen = checks_of(told_sums(hall, plan, silences))[2]
    return (prime, size, settled(prime, [word_led_by(hall[0], digits) for digits in unseen]))


def alike_by(hall, plan, silences):
    """A blind word, and for each round a word of the star that takes all of it off but at silent shelves."""
    prime, size, _ = hall[0]
    word = blind_book(hall, plan, silences)[2][0]
    star = star_of(hall[0], hall[1])
    stars = []
    for mark, silent in zip(plan, silences):
        lot = rest_of(size, silent)
        stars.append(fitting_word(star, lot, tuple([-word[place] * mark[place] % prime for place in lot])))
    return (word, tuple(stars))


def number_rows(hall, plan, silences):
    """Settled rows of the sums that checks tell, each with these checks, round by round, behind it.

    A check whose sum follows from those ahead is left out, so there are as many rows as the plan tells.
    """
    keep = hall[0]
    prime, size, _ = keep
    rows = ()
    for turn, check in round_checks(star_checks(hall), silences):
        ahead, behind = (0,) * (size * turn), (0,) * (size * (len(plan) - turn - 1))
        longer = told_digits(keep, plan[turn], check) + ahead + check + behind
        if lead_of(reduced(prime, rows, longer)) < len(keep[2]):
            rows = grown(prime, rows, longer)
    return rows


def read_numbers(hall, plan, silences):
    """Read-numbers of the plan for the silences; Unreadable tells a blind word if there are none."""
    demand_plan(hall, plan, silences)
    size, rank = hall[0][1], len(hall[0][2])
    rows = number_rows(hall, plan, silences)
    if len(rows) < rank:
        raise Unreadable(alike_by(hall, plan, silences))
    starts = [rank + size * turn for turn in range(len(plan))]
    return tuple([tuple([row[start:start + size] for start in starts]) for row in rows])
