"""The document's examples: digits, words, lots, books, lines and free lots."""

import unittest

from tests.helper import run_examples

HEAD = r"""
>>> KEEP = (5, 4, ((1, 0, 4, 3), (0, 1, 2, 3)))
>>> HIDE = (5, 4, ((1, 1, 1, 1),))
>>> HALL = (KEEP, HIDE)
>>> STOCK = (((1, 2, 3, 4),), ((2, 2, 2, 2),))
"""

STAGE_1 = r"""
>>> from starshelves.kinds import is_digit, is_lot, is_prime, is_word
>>> from starshelves.words import added, cut, lessened, lot_of, product_of, sum_of_products, times, weight_of
>>> [is_prime(9), is_digit(5, True), is_word(5, 2, (4, 0)), is_lot(3, (2, 0))]
[False, False, True, False]
>>> [added(5, (1, 2), (4, 4)), lessened(5, (1, 2), (4, 4)), product_of(5, (1, 2), (4, 4)), times(5, 3, (1, 2)), sum_of_products(5, (1, 2), (4, 4))]
[(0, 1), (2, 3), (4, 3), (3, 1), 2]
>>> [lot_of((0, 3, 0)), weight_of((0, 3, 0)), cut((4, 3, 2), (0, 2))]
[(1,), 1, (4, 2)]
>>> added(5, (1, 2), (1, 2, 3))
raises NotUsable(word='other', at=-1)
"""

STAGE_2 = r"""
>>> from starshelves.bookchecker import lets_book
>>> from starshelves.books import checks_of, cut_of, has_word, is_part, meet_of, rank_of, span_of, star_of, sum_of, within_of, words_of
>>> [lets_book(KEEP), span_of(5, 2, ((0, 2), (3, 1), (3, 0))), rank_of(checks_of(HIDE))]
[2, (5, 2, ((1, 0), (0, 1))), 3]
>>> [checks_of(KEEP), star_of(KEEP, HIDE) == KEEP, rank_of(star_of(KEEP, KEEP)), sum_of(HIDE, span_of(5, 4, ((1, 2, 3, 4),))) == KEEP]
[(5, 4, ((1, 0, 2, 2), (0, 1, 3, 1))), True, 3, True]
>>> [meet_of(KEEP, span_of(5, 4, ((0, 1, 2, 3), (1, 0, 0, 0)))), has_word(KEEP, (1, 1, 1, 1)), is_part(KEEP, HIDE), words_of(HIDE)[2]]
[(5, 4, ((0, 1, 2, 3),)), True, False, (2, 2, 2, 2)]
>>> [within_of(KEEP, (0, 1, 2)), cut_of(KEEP, (0, 2))]
[(5, 4, ((1, 4, 2, 0),)), (5, 2, ((1, 0), (0, 1)))]
>>> lets_book((5, 2, ((1, 1), (0, 1))))
raises InvalidPaper(word='settled', at=(1, 0))
>>> lets_book((5, 2, ((2, 0),)))
raises InvalidPaper(word='first', at=0)
"""

STAGE_3 = r"""
>>> from starshelves.bookreadings import book_read, lot_read, word_read
>>> from starshelves.booktexts import book_text, lot_text, word_text
>>> [book_text(HIDE), word_text((4, 0)), lot_text(()), book_read('book 2 3'), word_read(5, 2, '4 0'), lot_read(4, '0 3')]
['book 5 4\nrow 1 1 1 1', '4 0', '-', (2, 3, ()), (4, 0), (0, 3)]
>>> book_read('book 5 2\nrow 1 1\nrow 0 1')
raises InvalidText(line=2, field=0)
>>> from starshelves.bookclasses import Book, Points
>>> one, line = Book(5, 4, (1, 1, 1, 1)), Points(5, (1, 2, 3, 4), 2)
>>> [line.form_now == KEEP, len(line), (1, 2, 3, 4) in line, (~line).rows_now, line * one == line, one.lies_in(line), line.values_of((1, 3))]
[True, 2, True, ((1, 0, 2, 2), (0, 1, 3, 1)), True, True, (4, 2, 0, 3)]
>>> [line[1], line((0, 2)).rows_now, (line & one) == one, len(line + Book.span(5, 4, (1, 0, 0, 0))), list(one), str(Book(2, 1))]
[(0, 1, 2, 3), ((1, 0), (0, 1)), True, 3, [(1, 1, 1, 1)], 'book 2 1']
>>> line + Book(5, 3)
raises NotUsable(word='other', at=-1)
"""

STAGE_4 = r"""
>>> from starshelves.freelots import bases_of, closure_of, is_free, rank_on, ring_in, rings_of
>>> PAIRS = (5, 4, ((1, 1, 0, 0), (0, 0, 1, 2)))
>>> DIM = (2, 3, ((1, 0, 1),))
>>> [is_free(KEEP, (0, 3)), is_free(KEEP, (0, 1, 2)), is_free(DIM, ()), rank_on(PAIRS, (0, 1)), rank_on(PAIRS, ()), closure_of(PAIRS, (0,)), closure_of(DIM, ())]
[True, False, True, 1, 0, (0, 1), (1,)]
>>> [bases_of(PAIRS), ring_in(PAIRS, (1, 2, 3)), ring_in(KEEP, (0, 1, 2, 3)), ring_in(KEEP, (1, 3)), rings_of(PAIRS), rings_of(DIM)]
[((0, 2), (0, 3), (1, 2), (1, 3)), (2, 3), (0, 1, 2), None, ((0, 1), (2, 3)), ((0, 2), (1,))]
>>> is_free(KEEP, (0, 4))
raises NotUsable(word='lot', at=-1)
"""


class Examples(unittest.TestCase):
    """Each line below an example is exactly what it gives, or the error it raises."""

    def test_stage_1(self):
        run_examples(self, HEAD + STAGE_1)

    def test_stage_2(self):
        run_examples(self, HEAD + STAGE_2)

    def test_stage_3(self):
        run_examples(self, HEAD + STAGE_3)

    def test_stage_4(self):
        run_examples(self, HEAD + STAGE_4)


if __name__ == "__main__":
    unittest.main()
