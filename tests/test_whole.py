"""[1] to [12] over the whole program: its interface, and halls that go through several stages, over all six primes."""

import copy
import importlib
import itertools
import unittest

from starshelves.answered import explaining, sure_word, word_of
from starshelves.asks import Ask
from starshelves.bookclasses import Book
from starshelves.bookreadings import book_read
from starshelves.books import star_of
from starshelves.booktexts import book_text
from starshelves.clearing import cleared, liars_in, most_borne
from starshelves.comparing import never_worse, worse_at
from starshelves.covering import are_covers
from starshelves.desk import Desk
from starshelves.drafts import Draft
from starshelves.eventreadings import read_log
from starshelves.eventtexts import event_line, log_lines
from starshelves.freelots import is_free
from starshelves.hallchanges import renamed, scaled, without_shelf
from starshelves.hallclasses import Hall
from starshelves.hidden import hidden_marks
from starshelves.live import LiveHall
from starshelves.lying import most_liars
from starshelves.mendchecker import lets_mend
from starshelves.mending import can_mend, distance_of, mended
from starshelves.mendpapers import mend_paper
from starshelves.plans import Plan, Units
from starshelves.pointhalls import points_hall, points_plan, points_rounds
from starshelves.readchecker import lets_read
from starshelves.reading import read_numbers, reads
from starshelves.replaying import replayed
from starshelves.roundclasses import Rounds
from starshelves.rounds import best_lots, least_rounds, unit_marks
from starshelves.roundschecker import lets_rounds
from starshelves.roundspapers import rounds_paper
from starshelves.seechecker import lets_see
from starshelves.seeing import learns, like_of, tell_of
from starshelves.seepapers import see_paper
from starshelves.someplans import some_plan_reads
from starshelves.sums import total_by, total_of
from starshelves.tellback import asked_slots, mark_by
from starshelves.worn import hidden_depth, points_bound
from tests import (
    test_interface_asks, test_interface_books, test_interface_halls, test_interface_live, test_interface_plans, test_interface_rounds,
)
from tests.helper import (
    HALL, PRIMES, chance_of, defined_names, dot, great_left, is_free_by_rows, lots_below, point_halls, raised, rank_of_rows, rest_of, shown,
    some_book, some_covers, some_halls, some_lot, some_plan, some_slot, some_stock, some_word, some_word_in,
)

INTERFACE = {
    "kinds": "is_integer is_number is_prime is_digit is_word is_lot is_book",
    "words": "added lessened product_of times sum_of_products lot_of weight_of cut",
    "bookchecker": "lets_book",
    "books": "span_of checks_of star_of sum_of meet_of rank_of has_word is_part words_of within_of cut_of",
    "booktexts": "book_text word_text lot_text", "bookreadings": "book_read word_read lot_read", "bookclasses": "Book Points",
    "freelots": "is_free rank_on closure_of bases_of ring_in rings_of", "commonlots": "common_lot common_cut cheapest_common",
    "commonchecker": "lets_common", "joinedlots": "joint_lots joint_size joint_cut", "jointchecker": "lets_joint", "frees": "Free",
    "stockkinds": "is_hall is_file is_stock is_slot", "hallchecker": "lets_hall", "stocks": "shelf_of shelves_of slots_of stock_from",
    "mending": "can_mend menders_of least_losses distance_of mended cheapest_menders", "mendpapers": "mend_paper", "mendchecker": "lets_mend",
    "clearing": "most_borne clears cleared liars_in", "hallclasses": "Hall", "covering": "are_covers plain_covers",
    "asking": "letters_of answer_of answers_of", "seeing": "learns like_of tell_of learning_lots blind_lots", "seepapers": "see_paper",
    "seechecker": "lets_see", "hidden": "hidden_marks hides_all sight_count sights_at", "plansseen": "plan_learns twice_seen",
    "asks": "Ask Plain", "reading": "reads blind_book told_rank told_sums read_numbers", "readchecker": "lets_read",
    "someplans": "some_plan_reads", "answered": "explaining word_of told_sum liars_by sure_word", "lying": "bears most_liars sure_sums",
    "plans": "Plan Units", "rounds": "rest_book cut_ratio most_told least_rounds best_lots rounds_cut unit_marks",
    "unlike": "most_in lots_in cut_in", "roundspapers": "rounds_paper", "roundschecker": "lets_rounds", "roundclasses": "Rounds",
    "worn": "rounds_bound is_bound_met hidden_depth points_bound", "prices": "cheapest_lots least_price",
    "pointhalls": "points_hall points_rounds points_plan", "sums": "total_of weighed_letters total_by",
    "writes": "changed touched partly least_touch", "drafts": "Draft",
    "hallchanges": "with_shelf without_shelf shortened renamed scaled", "mendbooks": "learning_book reading_book",
    "comparing": "worse_at never_worse", "tellback": "asked_slots weights_by mark_by", "liveevents": "is_event", "live": "LiveHall",
    "replaying": "is_log replayed", "eventtexts": "event_line log_lines", "eventreadings": "read_event read_log", "desk": "Desk",
}
TESTED = (test_interface_books, test_interface_halls, test_interface_asks, test_interface_plans, test_interface_rounds, test_interface_live)
CALLS = [call for module in TESTED for call in module.CALLS]


def read_hall(seed):
    """Halls of up to eight shelves read from the lines of their logs, with a source of chances."""
    for hall, chance in some_halls(seed, 4):
        lines = log_lines((("hall", hall),))
        yield read_log(lines)[0][1], chance
    for hall, _, chance in point_halls(seed, (5, 7, 11)):
        yield read_log(log_lines((("hall", hall),)))[0][1], chance


def live_with(hall, stock):
    """A live hall in which the files of the stock lie."""
    live = LiveHall(hall)
    live.do_all(*[("put", file) for file in stock])
    return live


def all_parts(value):
    """The value and all that is in it, however deep."""
    yield value
    if isinstance(value, (tuple, list)):
        for part in value:
            yield from all_parts(part)


class Interface(unittest.TestCase):
    def test_all_names_are_defined_in_their_file_and_tested(self):
        tested = {(module, name) for module, name, _ in CALLS}
        for module, names in INTERFACE.items():
            home = importlib.import_module(f"starshelves.{module}")
            self.assertLessEqual(set(names.split()), set(defined_names(home)), module)
            for name in names.split():
                self.assertTrue((module, name) in tested or name in ("explaining", "Units", "Plan", "Desk"), name)

    def test_results_are_plain_and_new_and_arguments_stay(self):
        for module, name, given in CALLS:
            call = getattr(importlib.import_module(f"starshelves.{module}"), name)
            before = copy.deepcopy(given)
            one, other = call(**given), call(**given)
            self.assertEqual(shown(given), shown(before))
            if isinstance(call, type):
                self.assertIsNot(one, other)
                continue
            for part in all_parts(one):
                self.assertIn(part.__class__, (int, bool, str, tuple, list, LiveHall, type(None)), (name, part))
            self.assertEqual(isinstance(one, list), name == "log_lines")
            self.assertTrue(one == other)

    def test_results_do_not_hang_on_calls_before(self):
        """In whatever order functions are called, they give the same."""
        told = {}
        for order in (CALLS, CALLS[::-1], sorted(CALLS, key=lambda call: call[1])):
            for module, name, given in order:
                result = getattr(importlib.import_module(f"starshelves.{module}"), name)(**given)
                key = (module, name)
                if not hasattr(result, "__dict__"):
                    self.assertEqual(shown(result), told.setdefault(key, shown(result)))


class Stories(unittest.TestCase):
    """A hall read from lines, written, lost, mended, asked, compared."""

    def test_lines_books_and_halls_as_objects(self):
        for hall, _ in read_hall(511):
            keep, hide = (Book.read(book_text(book)) for book in hall)
            one = Hall(keep.form_now, hide.form_now)
            self.assertTrue(one == Hall.of(hall))
            self.assertEqual(one.star_now, (keep * hide).form_now)
            self.assertEqual([book_read(str(keep)), book_read(str(hide))], list(hall))
            for row in keep:
                self.assertIn(row, one)
            self.assertEqual(len(~keep) + len(keep), one.places_now)

    def test_written_lost_and_mended(self):
        for hall, chance in read_hall(512):
            size, stock = hall[0][1], some_stock(chance, hall)
            live, draft = live_with(hall, stock), Draft(hall, stock)
            for _ in range(3):
                slot, word = some_slot(chance, stock), some_word_in(chance, hall[0])
                draft[slot] = word
                live.write(slot, word)
            self.assertEqual(live.files_now, draft.stock_now)
            lot = some_lot(chance, size)[:2]
            for shelf in lot:
                live.lose(shelf)
            heard = rest_of(size, lot)
            held = tuple((shelf, live.held_now[shelf]) for shelf in heard)
            if not held:
                continue
            kind, told = raised(mended, hall, held)
            self.assertEqual(kind == "no error but", can_mend(hall, lot))
            self.assertIs(lets_mend(hall, lot, mend_paper(hall, lot)), can_mend(hall, lot))
            if can_mend(hall, lot):
                self.assertEqual(told, draft.stock_now)
                for shelf in lot:
                    self.assertEqual(live.mend(shelf), "idle")
                self.assertEqual([live.lost_now, live.spoilt_now], [(), ()])
                self.assertEqual([live.held_now[shelf] for shelf in range(size)], [tuple(tuple(row[shelf] for row in file) for file in told) for shelf in range(size)])
            else:
                self.assertEqual(kind, "Lost")
                self.assertTrue(told["within"] in Hall.of(hall) and any(told["within"]))

    def test_lies_are_cleared(self):
        counted = 0
        for hall, chance in read_hall(513):
            size, stock = hall[0][1], some_stock(chance, hall)
            live, borne = live_with(hall, stock), most_borne(hall, ())
            for shelf in chance.sample(range(size), min(borne, size)):
                slot = some_slot(chance, stock)
                live.spoil(shelf, slot, (live.held_now[shelf][slot[0]][slot[1]] + 1) % hall[0][0])
            held = tuple(enumerate(live.held_now))
            self.assertEqual(cleared(hall, held, borne), stock)
            self.assertEqual(liars_in(hall, held, borne), live.spoilt_now)
            self.assertEqual(len(live.spoilt_now), borne)
            counted += borne > 0
        self.assertGreater(counted, 10)

    def test_asked_with_shelves_that_are_lost(self):
        read = 0
        for hall, silent, _, chance in great_left(514, 3):
            stock, lots = some_stock(chance, hall), best_lots(hall, silent)
            live, slot = live_with(hall, stock), some_slot(chance, stock)
            for shelf in silent:
                live.lose(shelf)
            self.assertEqual(live.needed(), least_rounds(hall, silent))
            if lots is None:
                continue
            plan = unit_marks(hall[0][1], lots)
            covers = tuple(some_covers(chance, hall, stock) for _ in plan)
            live.ask(slot, plan, covers)
            asks = [Ask(hall, stock, (slot, mark), sent) for mark, sent in zip(plan, covers)]
            heard = rest_of(hall[0][1], silent)
            for shelf in chance.sample(heard, len(heard)):
                live.answer(shelf)
            answers = tuple(ask.answers(heard) for ask in asks)
            self.assertEqual([live.answers(), live.state(), live.told(), live.needed()], [answers, "read", len(hall[0][2]), 0])
            row = stock[slot[0]][slot[1]]
            self.assertEqual([live.reading(), word_of(hall, plan, answers)], [row, row])
            numbers = read_numbers(hall, plan, (silent,) * len(plan))
            self.assertIs(lets_read(hall, plan, (silent,) * len(plan), ("read", numbers)), True)
            digits = [[answer.get(shelf, 0) for shelf in range(hall[0][1])] for answer in map(dict, answers)]
            for words, lead in zip(numbers, hall[0][2]):
                self.assertEqual(sum(dot(hall[0][0], word, sent) for word, sent in zip(words, digits)) % hall[0][0], row[lead.index(1)])
            self.assertIs(Units(hall, *lots)(silent), True)
            self.assertEqual([live.learned((shelf,)) for shelf in heard], [any(learns(hall, mark, (shelf,)) for mark in plan) for shelf in heard])
            read += 1
        self.assertGreater(read, 20)

    def test_what_the_letters_of_an_ask_tell_back(self):
        for hall, chance in read_hall(515):
            stock, mark, lot = some_stock(chance, hall), some_word(chance, *hall[0][:2]), some_lot(chance, hall[0][1]) or (0,)
            slot, covers = some_slot(chance, stock), some_covers(chance, hall, stock)
            self.assertIs(are_covers(hall, stock, covers), True)
            ask = Ask(hall, stock, (slot, mark), covers)
            slots = asked_slots(hall, mark, lot, ask.seen_by(lot))
            self.assertIn(slot, slots)
            if sum(map(len, stock)) > 1:
                self.assertEqual(ask.learned_by(lot), slots == (slot,))
            found = mark_by(hall, lot, ask.seen_by(lot), slot)
            self.assertEqual(learns(hall, found, lot), ask.learned_by(lot))

    def test_lines_replayed_and_said_at_a_desk(self):
        for hall, chance in read_hall(516):
            stock = some_stock(chance, hall)
            live, desk = live_with(hall, stock), Desk()
            slot, plan = some_slot(chance, stock), some_plan(chance, hall, 3)
            events = [("lose", chance.randrange(hall[0][1])), ("ask", slot, plan, tuple(some_covers(chance, hall, stock) for _ in plan))]
            events += [("answer", shelf) for shelf in range(hall[0][1]) if shelf != events[0][1]]
            live.do_all(*events)
            log = read_log(log_lines(live.log()))
            other = replayed(log)
            self.assertEqual([log == live.log(), other == live, other.state(), other.reading()], [True, True, live.state(), live.reading()])
            self.assertEqual(desk.say("\n".join(log_lines((log[0],)))), "ok")
            said = [desk.say(event_line(event)) for event in log[1:]]
            self.assertEqual([said[-1], desk.say("state"), desk.say("events")], [live.state()] * 2 + [str(len(live))])
            self.assertEqual(desk.say("log").split("; "), log_lines(log)[-len(live):])
            self.assertEqual(desk.counts(), (len(log) + 3, len(log) + 3))

    def test_compared(self):
        chance = chance_of(517)
        for prime in PRIMES:
            for _ in range(4):
                size = chance.randint(2, 5)
                keep = some_book(chance, prime, size, chance.randint(1, min(3, size)))
                hall = (keep, some_book(chance, prime, size, chance.randint(0, 2)))
                open_hall = (keep, (prime, size, ()))
                self.assertEqual(worse_at(open_hall, hall)[0], None)
                self.assertEqual(worse_at(open_hall, hall)[2], None)
                self.assertIs(never_worse(hall, scaled(hall, *[tuple(chance.randint(1, prime - 1) for _ in range(size)) for _ in hall])), True)
                order = tuple(chance.sample(range(size), size))
                turned = renamed(hall, order)
                self.assertEqual([distance_of(turned), hidden_depth(turned)], [distance_of(hall), hidden_depth(hall)])
                self.assertIs(never_worse(renamed(turned, tuple(order.index(place) for place in range(size))), hall), True)

    def test_a_shelf_less(self):
        for hall, chance in read_hall(518):
            size, shelf = hall[0][1], chance.randrange(hall[0][1])
            if size == 1 or not can_mend(hall, (shelf,)):
                continue
            fewer, stock = without_shelf(hall, shelf), some_stock(chance, hall)
            cut = tuple(tuple(row[:shelf] + row[shelf + 1:] for row in file) for file in stock)
            live = live_with(fewer, cut)
            self.assertEqual([live.held_now, live.spoilt_now], [live_with(hall, stock).held_now[:shelf] + live_with(hall, stock).held_now[shelf + 1:], ()])
            ones = tuple((1,) * len(file) for file in stock)
            total = total_of(hall, stock, ones)
            self.assertEqual(total_of(fewer, cut, ones), total[:shelf] + total[shelf + 1:])
            self.assertEqual(total_by(hall, tuple((place, total[place]) for place in rest_of(size, (shelf,)))), total)


class Guaranteed(unittest.TestCase):
    """[10], once more over all stages."""

    def test_g1_and_g2(self):
        for hall, chance in read_hall(521):
            size = hall[0][1]
            family = tuple(sorted({some_lot(chance, size) for _ in range(3)}))
            book = hidden_marks(hall, family)
            self.assertIs(Book.of(hall[1]).lies_in(Book.of(book)), True)
            for mark in (some_word(chance, *hall[0][:2]), some_word_in(chance, hall[1]), some_word_in(chance, book)):
                for lot in family:
                    like, tell = like_of(hall, mark, lot), tell_of(hall, mark, lot)
                    self.assertEqual([like is None, tell is None], [learns(hall, mark, lot), not learns(hall, mark, lot)])
                    self.assertIs(lets_see(hall, mark, lot, see_paper(hall, mark, lot)), learns(hall, mark, lot))
                self.assertEqual(mark in Book.of(book), not any(learns(hall, mark, lot) for lot in family))

    def test_g3(self):
        seen = set()
        for hall, silent, _, chance in great_left(522, 3):
            book = some_book(chance, *hall[0][:2])
            told = some_plan_reads(hall, book, silent)
            if book[2]:
                self.assertEqual(told, reads(hall, book[2], (silent,) * len(book[2])))
                plan = tuple(some_word_in(chance, book) for _ in range(3))
                self.assertLessEqual(reads(hall, plan, (silent,) * 3), told)
            else:
                self.assertIs(told, False)
            seen.add(told)
        self.assertEqual(seen, {True, False})

    def test_g4(self):
        counted = 0
        for prime, size, kept, hidden, lying in ((5, 5, 1, 1, 1), (7, 7, 2, 1, 1), (7, 6, 1, 1, 2), (11, 8, 1, 2, 2), (13, 8, 2, 2, 1)):
            chance = chance_of(523 + prime)
            points = tuple(chance.sample(range(prime), size))
            hall, plan = points_hall(prime, points, kept, hidden), points_plan(prime, points, kept, hidden, 0, lying)
            stock = some_stock(chance, hall)
            self.assertGreaterEqual(most_liars(hall, plan, ((),) * len(plan)), 2 * lying)
            for liars in list(itertools.combinations(range(size), lying))[:6]:
                slot = some_slot(chance, stock)
                asks = [Ask(hall, stock, (slot, mark), some_covers(chance, hall, stock)) for mark in plan]
                answers = tuple(
                    tuple((shelf, chance.randrange(prime) if shelf in liars else digit) for shelf, digit in ask.answers(tuple(range(size)))) for ask in asks
                )
                row = stock[slot[0]][slot[1]]
                self.assertEqual([sure_word(hall, plan, answers, lying), list(explaining(hall, plan, answers, lying))], [row, [row]])
                counted += 1
        self.assertGreater(counted, 20)

    def test_g5_g6_and_g7(self):
        for hall, silent, left, chance in great_left(524, 3):
            paper, one = rounds_paper(hall, silent, left), Rounds(hall, silent, left)
            self.assertEqual([lets_rounds(hall, silent, paper, left), least_rounds(hall, silent, left)], [one.least_now] * 2)
            if paper[0] == "rounds":
                self.assertIs(paper[1] in one, True)
                self.assertEqual(one[len(paper[1])], len(one))
            prime, size, rows = hall[0]
            if left is None and all(any(row[place] for row in rows) for place in range(size)):
                for t in range(1, hidden_depth(hall) + 1):
                    self.assertGreaterEqual(len(star_of(*hall)[2]), min(size, len(rows) + t - 1))
                bound = points_bound(hall, silent, 0)
                self.assertTrue(bound is not None or one.least_now is None)
                self.assertTrue(one.least_now is None or one.least_now >= bound)

    def test_g6_halls_of_polynomials_need_no_more(self):
        for prime in PRIMES:
            for size in range(1, min(prime, 8) + 1):
                for kept, hidden in itertools.product(range(1, min(size, 5) + 1), repeat=2):
                    hall = points_hall(prime, tuple(range(size)), kept, hidden)
                    self.assertEqual(hidden_depth(hall), hidden)
                    silent = tuple(range(size))[size - 1:]
                    self.assertEqual([least_rounds(hall, ()), least_rounds(hall, silent)],
                                     [points_rounds(prime, tuple(range(size)), kept, hidden, many, 0) for many in (0, 1)])

    def test_free_lots_by_ranks_of_rows(self):
        for hall, _ in read_hall(525):
            for lot in lots_below(hall[0][1])[1::5]:
                for book in hall:
                    self.assertEqual(is_free(book, lot), is_free_by_rows(book, lot))
                    rows = [tuple(row[k] for k in lot) for row in book[2]]
                    self.assertTrue(Book.of(book)(lot) == Book.span(book[0], len(lot), *rows))
                    self.assertEqual(len(Book.of(book)(lot)), rank_of_rows(book[0], rows))


class Example(unittest.TestCase):
    """[12]."""

    def test_the_words_of_the_examples(self):
        keep, hide = HALL
        lines = {tuple((a + b * x) % 5 for x in (1, 2, 3, 4)) for a in range(5) for b in range(5)}
        self.assertEqual({word for word in itertools.product(range(5), repeat=4) if word in Book.of(keep)}, lines)
        self.assertEqual([(Book.of(keep) * Book.of(hide)).form_now, (~Book.of(keep)).rows_now], [keep, ((1, 0, 2, 2), (0, 1, 3, 1))])
        self.assertEqual([learns(HALL, (1, 1, 0, 0), (shelf,)) for shelf in range(4)], [False] * 4)
        self.assertIs(Plan(HALL, (1, 1, 0, 0))(()), True)


if __name__ == "__main__":
    unittest.main()
