"""Words by answers, some of which may be missing, or lies."""

from starshelves.askkinds import are_plan_answers, is_plan
from starshelves.books import words_of
from starshelves.demands import demand
from starshelves.errors import Torn, Unreadable
from starshelves.kinds import is_number, is_word_in
from starshelves.lots import lots_of
from starshelves.reading import alike_by, told_sums
from starshelves.rows import digit_of_products, lead_of, reduced
from starshelves.tellings import lead_digits, silences_of, star_checks, told_rows, word_led_by


def demand_answers(hall, plan, answers):
    """Refuse what is no plan, or what are no answers of it."""
    demand(is_plan(hall, plan), "plan")
    demand(are_plan_answers(hall, plan, answers), "answers")


def has_sums(prime, rows, digits):
    """Whether these lead digits have all the sums of the rows that told_rows tells."""
    return all([digit_of_products(prime, row, (*digits, -1)) == 0 for row in rows])


def ways_to_lie(hall, plan, answers, most):
    """What the answers tell, but for each lot of as many shelves as may lie, each unlike way once."""
    keep = hall[0]
    checks = star_checks(hall)
    ways = [told_rows(keep, checks, plan, answers, liars) for liars in lots_of(keep[1], min(most, keep[1]))]
    return list({rows: True for rows in ways})


def explaining(hall, plan, answers, most):
    """The words of keep that explain the answers but for a lot of at most so many shelves, ascending."""
    demand_answers(hall, plan, answers)
    demand(is_number(most), "most")
    keep = hall[0]
    ways = ways_to_lie(hall, plan, answers, most)
    for word in words_of(keep):
        digits = lead_digits(keep, word)
        if any([has_sums(keep[0], rows, digits) for rows in ways]):
            yield word


def rows_without_liars(hall, plan, answers):
    """What the answers tell if none lied; Torn(()) if no word of keep explains them."""
    rows = told_rows(hall[0], star_checks(hall), plan, answers, ())
    if len(rows) > 0 and lead_of(rows[-1]) == len(hall[0][2]):
        raise Torn(())
    return rows


def word_of(hall, plan, answers):
    """The wanted word, if none lied; Unreadable if the plan does not read by those that answered, then Torn(())."""
    demand_answers(hall, plan, answers)
    keep = hall[0]
    silences = silences_of(keep[1], answers, ())
    if len(told_sums(hall, plan, silences)[2]) < len(keep[2]):
        raise Unreadable(alike_by(hall, plan, silences))
    return word_led_by(keep, [row[-1] for row in rows_without_liars(hall, plan, answers)])


def told_sum(hall, plan, answers, weights):
    """The sum of products of the weights and the lead digits of the wanted word, if none lied; Torn(()) likewise."""
    demand_answers(hall, plan, answers)
    prime, size, _ = hall[0]
    demand(is_word_in(told_sums(hall, plan, silences_of(size, answers, ())), weights), "weights")
    rows = rows_without_liars(hall, plan, answers)
    return -reduced(prime, rows, (*weights, 0))[-1] % prime


def liars_by(hall, plan, answers, word):
    """The set of the lots of the fewest shelves but for which the word explains the answers."""
    demand_answers(hall, plan, answers)
    keep = hall[0]
    demand(is_word_in(keep, word), "word")
    digits = lead_digits(keep, word)
    checks = star_checks(hall)
    found = []
    many = 0
    while len(found) == 0:
        lots = lots_of(keep[1], many)
        found = [lot for lot in lots if has_sums(keep[0], told_rows(keep, checks, plan, answers, lot), digits)]
        many += 1
    return tuple(found)


def sure_word(hall, plan, answers, most):
    """The only word that explains the answers but for so many shelves; Torn tells all if they are not just one."""
    ways = tuple(explaining(hall, plan, answers, most))
    if len(ways) != 1:
        raise Torn(ways)
    return ways[0]
