"""Tests of kimariji.deals: promises 6 and 7 (the sweeps and covers of it), and its refusals in their order."""

import unittest
from itertools import combinations, product

from kimariji.books import Book
from kimariji.deals import Deal
from kimariji.errors import BadDeal, Full, NoCard, NoField, NoPlace, NoVerse

LETTERS = "abcdefghijklmnopqrstuvwxyz"
GREAT = 10 ** 5000
STRANGE = (-1, -2, -40, -41, -GREAT, 40, 41, GREAT)
ZERO = [[5, 3, 9], [], [1]]
ONE = [[0], [8, 2, 7, 4]]
NOWHERE = [6] + list(range(10, 40))


def full_book():
    return Book([[LETTERS[number // 26] + LETTERS[number % 26]] for number in range(40)])


def deal():
    return Deal(full_book(), ZERO, ONE)


def fields(some):
    return (some.rows(0), some.rows(1))


class TestDeal(unittest.TestCase):
    def test_the_book_is_the_one_handed_in(self):
        book = full_book()
        self.assertIs(Deal(book, ZERO, ONE).book(), book)

    def test_rows_and_cards(self):
        self.assertEqual(fields(deal()), (ZERO, ONE))
        self.assertEqual(deal().cards(0), [5, 3, 9, 1])
        self.assertEqual(deal().cards(1), [0, 8, 2, 7, 4])

    def test_no_cards_at_all(self):
        some = Deal(full_book(), [[]], [[], [], []])
        self.assertEqual(fields(some), ([[]], [[], [], []]))
        self.assertEqual((some.cards(0), some.cards(1)), ([], []))

    def test_where(self):
        for field, rows in enumerate((ZERO, ONE)):
            for row, cards in enumerate(rows):
                for place, card in enumerate(cards):
                    self.assertEqual(deal().where(card), (field, row, place))
        for verse in NOWHERE:
            self.assertIsNone(deal().where(verse))

    def test_kinds_of_values(self):
        self.assertIs(type(deal().rows(0)), list)
        self.assertEqual({type(row) for row in deal().rows(0)}, {list})
        self.assertIs(type(deal().cards(1)), list)
        self.assertIs(type(deal().where(3)), tuple)
        self.assertIs(type(deal().swept((0, 0, 0, 1))), list)
        self.assertIs(type(deal().cover([3])), list)
        self.assertEqual({type(sweep) for sweep in deal().cover([3, 2])}, {tuple})
        self.assertEqual({type(some) for some in (deal().without(3), deal().sent(3, 0), deal().moved(3, 0, 0))}, {Deal})

    def test_no_field(self):
        for field in (-1, -2, 2, 3, GREAT, -GREAT):
            for ask in (deal().rows, deal().cards):
                with self.assertRaises(NoField):
                    ask(field)

    def test_where_refuses_strange_numbers(self):
        for number in STRANGE:
            with self.assertRaises(NoVerse):
                deal().where(number)


class TestBadDeal(unittest.TestCase):
    def good(self, zero, one):
        self.assertEqual(fields(Deal(full_book(), zero, one)), (zero, one))

    def bad(self, zero, one):
        for first, second in ((zero, one), (one, zero)):
            with self.assertRaises(BadDeal):
                Deal(full_book(), first, second)

    def test_count_of_rows(self):
        for many in (1, 2, 3):
            self.good([[]] * many, [[0]])
            self.good([[0]], [[]] * many)
        for many in (0, 4, 5, 40):
            self.bad([[]] * many, [[0]])
        self.bad([], [])
        self.bad([[1], [2], [3], [4]], [[0]])

    def test_count_of_cards(self):
        twelve = list(range(12))
        self.good([twelve], [[]])
        self.good([[], twelve, []], [[12], list(range(13, 25))])
        for many in (13, 14, 30):
            self.bad([list(range(many))], [[]])
            self.bad([[39], [], list(range(many))], [[]])

    def test_numbers_that_are_no_verses(self):
        self.good([[39, 0]], [[1]])
        for number in STRANGE:
            self.bad([[number]], [[]])
            self.bad([[0, 1], [2, number, 3]], [[4]])

    def test_the_count_of_the_very_book(self):
        book = Book([["a"], ["b"]])
        self.assertEqual(Deal(book, [[1]], [[0]]).cards(0), [1])
        with self.assertRaises(BadDeal):
            Deal(book, [[2]], [[0]])

    def test_no_verse_lies_twice(self):
        self.bad([[3, 3]], [[]])
        self.bad([[3, 4, 3]], [[]])
        self.bad([[3], [4, 3]], [[]])
        self.bad([[3], [4]], [[5], [3]])
        self.bad([[0]], [[0]])


class TestSwept(unittest.TestCase):
    def test_both_ends_are_counted_in(self):
        for first in range(4):
            for last in range(first, 4):
                self.assertEqual(deal().swept((1, 1, first, last)), ONE[1][first:last + 1])
        self.assertEqual(deal().swept((0, 2, 0, 0)), [1])
        self.assertEqual(deal().swept((0, 0, 0, 2)), [5, 3, 9])

    def refused(self, error, sweep):
        with self.assertRaises(error, msg=sweep):
            deal().swept(sweep)

    def test_no_field(self):
        for field in (-1, -2, 2, GREAT, -GREAT):
            for row, first, last in product((0, 1, 3, -1), (0, 1, -1), (0, 2, 9)):
                self.refused(NoField, (field, row, first, last))

    def test_no_row(self):
        for row in (-1, -3, 3, GREAT, -GREAT):
            for first, last in ((0, 0), (1, 0), (-1, 0), (0, 99)):
                self.refused(NoField, (0, row, first, last))
        self.refused(NoField, (1, 2, 0, 0))

    def test_no_card(self):
        for first, last in product((-GREAT, -4, -3, -1, 0, 1, 2, 3, 4, GREAT), repeat=2):
            if not 0 <= first <= last <= 2:
                self.refused(NoCard, (0, 0, first, last))
        self.refused(NoCard, (0, 1, 0, 0))
        self.refused(NoCard, (0, 2, 0, 1))
        self.refused(NoCard, (0, 2, 1, 1))


class TestCover(unittest.TestCase):
    def test_the_shortest_sweep_for_each_row(self):
        self.assertEqual(deal().cover([3]), [(0, 0, 1, 1)])
        self.assertEqual(deal().cover([5, 9]), [(0, 0, 0, 2)])
        self.assertEqual(deal().cover([7, 8]), [(1, 1, 0, 2)])
        self.assertEqual(deal().cover([2, 4]), [(1, 1, 1, 3)])

    def test_by_fields_and_by_rows(self):
        told = [(0, 0, 0, 1), (0, 2, 0, 0), (1, 0, 0, 0), (1, 1, 2, 3)]
        self.assertEqual(deal().cover([4, 0, 7, 1, 5, 3]), told)
        self.assertEqual(deal().cover([3, 5, 1, 7, 0, 4]), told)

    def test_repetition_and_cards_that_lie_nowhere_say_nothing(self):
        self.assertEqual(deal().cover([6, 3, 3, 39, 3, 5, 6]), [(0, 0, 0, 1)])
        self.assertEqual(deal().cover([6, 39]), [])
        self.assertEqual(deal().cover([]), [])

    def test_all(self):
        told = [(0, 0, 0, 2), (0, 2, 0, 0), (1, 0, 0, 0), (1, 1, 0, 3)]
        self.assertEqual(deal().cover(list(range(40))), told)

    def test_by_the_words_of_the_document(self):
        lying = deal().cards(0) + deal().cards(1)
        for many in range(len(lying) + 1):
            for some in combinations(lying, many):
                told = deal().cover(list(some))
                self.assertEqual([sweep[:2] for sweep in told], sorted({deal().where(verse)[:2] for verse in some}))
                for field, row, first, last in told:
                    inside = [verse for verse in some if deal().where(verse)[:2] == (field, row)]
                    touched = deal().swept((field, row, first, last))
                    self.assertLessEqual(set(inside), set(touched))
                    # No shorter one does, since both its ends are needed.
                    self.assertTrue(touched[0] in inside and touched[-1] in inside)

    def test_strange_numbers(self):
        for number in STRANGE:
            for verses in ([number], [number, 3], [3, number], [6, number, 6]):
                with self.assertRaises(NoVerse):
                    deal().cover(verses)


class TestWithout(unittest.TestCase):
    def test_the_cards_that_stay_keep_their_order(self):
        self.assertEqual(fields(deal().without(3)), ([[5, 9], [], [1]], ONE))
        self.assertEqual(fields(deal().without(5)), ([[3, 9], [], [1]], ONE))
        self.assertEqual(fields(deal().without(1)), ([[5, 3, 9], [], []], ONE))
        self.assertEqual(fields(deal().without(2)), (ZERO, [[0], [8, 7, 4]]))
        self.assertIsNone(deal().without(2).where(2))

    def test_refusals(self):
        for number in STRANGE:
            with self.assertRaises(NoVerse):
                deal().without(number)
        for verse in NOWHERE:
            with self.assertRaises(NoCard):
                deal().without(verse)


class TestSent(unittest.TestCase):
    def test_to_the_end_of_a_row_of_the_other_field(self):
        self.assertEqual(fields(deal().sent(3, 0)), ([[5, 9], [], [1]], [[0, 3], [8, 2, 7, 4]]))
        self.assertEqual(fields(deal().sent(3, 1)), ([[5, 9], [], [1]], [[0], [8, 2, 7, 4, 3]]))
        self.assertEqual(fields(deal().sent(0, 1)), ([[5, 3, 9], [0], [1]], [[], [8, 2, 7, 4]]))
        self.assertEqual(fields(deal().sent(8, 2)), ([[5, 3, 9], [], [1, 8]], [[0], [2, 7, 4]]))

    def test_the_twelfth_card(self):
        some = Deal(full_book(), [[20]], [list(range(11))])
        self.assertEqual(fields(some.sent(20, 0)), ([[]], [list(range(11)) + [20]]))

    def test_refusals_in_their_order(self):
        # Row 1 of field 1, and row 0 of field 0, are full.
        some = Deal(full_book(), [list(range(12)), []], [[20], list(range(24, 36)), [21]])
        for row in (-GREAT, -1, 0, 1, 2, 3, GREAT):
            for number in STRANGE:
                with self.assertRaises(NoVerse):
                    some.sent(number, row)
            with self.assertRaises(NoCard):
                some.sent(39, row)
        for verse, row in product((0, 11), (-GREAT, -1, -3, 3, GREAT)):
            with self.assertRaises(NoField):
                some.sent(verse, row)
        # Its own field has a row 2, the other one has none.
        for row in (2, -1, 3):
            with self.assertRaises(NoField):
                some.sent(21, row)
        for verse, row in ((0, 1), (20, 0), (24, 0)):
            with self.assertRaises(Full):
                some.sent(verse, row)


class TestMoved(unittest.TestCase):
    def test_within_its_row(self):
        told = [deal().moved(8, 1, place).rows(1) for place in range(4)]
        wanted = [[8, 2, 7, 4], [2, 8, 7, 4], [2, 7, 8, 4], [2, 7, 4, 8]]
        self.assertEqual(told, [[[0], row] for row in wanted])

    def test_to_another_row(self):
        told = [deal().moved(1, 0, place).rows(0) for place in range(4)]
        wanted = [[1, 5, 3, 9], [5, 1, 3, 9], [5, 3, 1, 9], [5, 3, 9, 1]]
        self.assertEqual(told, [[row, [], []] for row in wanted])
        self.assertEqual(fields(deal().moved(3, 1, 0)), ([[5, 9], [3], [1]], ONE))

    def test_a_full_row(self):
        twelve = list(range(12))
        some = Deal(full_book(), [twelve, [20]], [[]])
        self.assertEqual(some.moved(0, 0, 11).rows(0), [twelve[1:] + [0], [20]])
        for place in (-GREAT, -1, 0, 12, 13, GREAT):
            with self.assertRaises(Full):
                some.moved(20, 0, place)
        with self.assertRaises(NoPlace):
            some.moved(0, 0, 12)

    def test_no_place(self):
        # Without it: two cards in its own row, none in row 1, one in row 2.
        for row, many in ((0, 2), (1, 0), (2, 1)):
            for place in (-GREAT, -2, -1, many + 1, many + 2, GREAT):
                with self.assertRaises(NoPlace):
                    deal().moved(3, row, place)
            self.assertEqual(deal().moved(3, row, many).where(3), (0, row, many))

    def test_refusals_in_their_order(self):
        some = Deal(full_book(), [list(range(12)), []], [[20], list(range(24, 36)), [21]])
        for row, place in product((-GREAT, -1, 0, 1, 2, 3, GREAT), (-1, 0, 1, 12, 99)):
            for number in STRANGE:
                with self.assertRaises(NoVerse):
                    some.moved(number, row, place)
            with self.assertRaises(NoCard):
                some.moved(39, row, place)
        for place in (-1, 0, 99):
            # The other field has a row 2, its own one has none.
            for row in (-1, -2, 2, GREAT, -GREAT):
                with self.assertRaises(NoField):
                    some.moved(0, row, place)
            with self.assertRaises(Full):
                some.moved(20, 1, place)


class TestAnotherDeal(unittest.TestCase):
    def test_the_first_one_stays_as_it_was(self):
        some = deal()
        others = [some.without(3), some.sent(3, 0), some.moved(3, 0, 0)]
        self.assertEqual(fields(some), (ZERO, ONE))
        for other in others:
            self.assertIsNot(other, some)
            self.assertIs(other.book(), some.book())

    def test_one_behind_the_other(self):
        some = deal().sent(3, 0).moved(3, 1, 2).sent(3, 1).without(9).sent(0, 0)
        self.assertEqual(fields(some), ([[5, 0], [3], [1]], [[], [8, 2, 7, 4]]))


if __name__ == "__main__":
    unittest.main()
