"""Tests of promise 1 for deals, hearing, plans and slow plans: nothing is changed or kept, told lists are new."""

import unittest
from copy import deepcopy

import samples
from samples import ALL, ONE, ROWS, ZERO

from kimariji.books import Book
from kimariji.deals import Deal
from kimariji.errors import SnatchError
from kimariji.hearing import faultless, is_fault, is_taken, moment, sure, witness
from kimariji.plans import earliest, joined, judged, taken_at
from kimariji.slowly import slow

SWEEP = (0, 0, 0, 1)
PLAN = ((("mu",), SWEEP), (("na",), (1, 1, 0, 0)), (("mu",), SWEEP))
MORE = (((), (1, 1, 0, 1)), (("na",), (1, 1, 0, 0)), ((), (1, 1, 0, 1)))
BAD = ((("mu",), SWEEP), (("x",), SWEEP))
UNREAD = (5, 0, 4, 0, 2, 1)

# Each is asked with a deal, unread verses, what was heard, and two plans.
QUESTIONS = {
    "book": lambda deal, unread, heard, one, other: deal.book().verses(),
    "rows": lambda deal, unread, heard, one, other: deal.rows(0),
    "cards": lambda deal, unread, heard, one, other: deal.cards(1),
    "where": lambda deal, unread, heard, one, other: deal.where(4),
    "swept": lambda deal, unread, heard, one, other: deal.swept(SWEEP),
    "cover": lambda deal, unread, heard, one, other: deal.cover(unread),
    "without": lambda deal, unread, heard, one, other: deal.without(0).rows(0),
    "sent": lambda deal, unread, heard, one, other: deal.sent(0, 1).rows(1),
    "moved": lambda deal, unread, heard, one, other: deal.moved(0, 1, 0).rows(0),
    "is_fault": lambda deal, unread, heard, one, other: is_fault(deal, 0, SWEEP),
    "is_taken": lambda deal, unread, heard, one, other: is_taken(deal, 0, SWEEP),
    "faultless": lambda deal, unread, heard, one, other: faultless(deal, unread, heard),
    "witness": lambda deal, unread, heard, one, other: witness(deal, unread, heard, SWEEP),
    "sure": lambda deal, unread, heard, one, other: sure(deal, unread, heard),
    "moment": lambda deal, unread, heard, one, other: moment(deal, unread, 1),
    "judged": lambda deal, unread, heard, one, other: judged(deal, unread, one),
    "taken_at": lambda deal, unread, heard, one, other: taken_at(deal, unread, one, 2),
    "earliest": lambda deal, unread, heard, one, other: earliest(deal, unread),
    "joined": lambda deal, unread, heard, one, other: joined(deal, unread, one, other),
    "slow": lambda deal, unread, heard, one, other: slow(deal, unread),
}


def things(unread=UNREAD, heard=("mu",), one=PLAN, other=MORE):
    return [list(unread), list(heard), list(one), list(other)]


def standing(deal):
    return (deal.book().verses(), deal.rows(0), deal.rows(1))


def spoil(told):
    """Change each list in an answer as far as it can be."""
    if isinstance(told, (list, tuple)):
        for inner in told:
            spoil(inner)
    if isinstance(told, list):
        told.reverse()
        told.append("spoilt")
        del told[0]


class TestHandedIn(unittest.TestCase):
    def test_rows_are_the_same_behind_the_making_of_a_deal(self):
        bad = (([], [[]]), ([[0, 0]], [[1]]), ([[9]], [[1]]), ([list(range(13))], [[1]]), ([[0]], [[0]]))
        for wanted in ((ZERO, ONE), *bad):
            zero, one = deepcopy(wanted)
            try:
                Deal(samples.book(), zero, one)
            except SnatchError:
                pass
            self.assertEqual((zero, one), wanted)

    def test_changing_the_rows_behind_the_making_changes_no_deal(self):
        zero, one = deepcopy(ZERO), deepcopy(ONE)
        deal = Deal(samples.book(), zero, one)
        spoil(zero)
        spoil(one)
        self.assertEqual(standing(deal), (ROWS, ZERO, ONE))
        self.assertEqual((deal.cards(0), deal.where(1), deal.swept(SWEEP)), ([5, 0, 4], (1, 1, 1), [5, 0]))

    def test_one_row_may_be_handed_in_to_two_deals_and_twice(self):
        empty = []
        deal = Deal(samples.book(), [empty, [1], empty], [empty])
        self.assertEqual(deal.sent(1, 0).rows(1), [[1]])
        self.assertEqual(deal.moved(1, 2, 0).rows(0), [[], [], [1]])
        empty.append(5)
        self.assertEqual(standing(deal), (ROWS, [[], [1], []], [[]]))

    def test_lists_are_the_same_behind_a_question(self):
        asked = (things(), things(unread=(0, 9)), things(unread=()), things(one=BAD), things(heard=("x",), other=BAD))
        for name, ask in QUESTIONS.items():
            for wanted in asked:
                deal, handed = samples.deal(), deepcopy(wanted)
                try:
                    ask(deal, *handed)
                except SnatchError:
                    pass
                self.assertEqual(handed, wanted, name)
                self.assertEqual(standing(deal), (ROWS, ZERO, ONE), name)

    def test_changing_lists_behind_a_question_changes_no_answer(self):
        for name, ask in QUESTIONS.items():
            deal, handed = samples.deal(), things()
            told = ask(deal, *handed)
            kept = deepcopy(told)
            for some in handed:
                some.clear()
            self.assertEqual(told, kept, name)
            self.assertEqual(ask(deal, *things()), kept, name)

    def test_a_plan_that_is_told_is_not_one_handed_in(self):
        deal, one = samples.deal(), list(PLAN)
        for told in (joined(deal, ALL, one, []), joined(deal, ALL, [], one), joined(deal, ALL, one, one)):
            told.clear()
            self.assertEqual(one, list(PLAN))


class TestTold(unittest.TestCase):
    def test_changing_a_told_list_changes_no_later_answer(self):
        deal = samples.deal()
        for name, ask in QUESTIONS.items():
            wanted = deepcopy(ask(deal, *things()))
            spoil(ask(deal, *things()))
            self.assertEqual(ask(deal, *things()), wanted, name)
        self.assertEqual(standing(deal), (ROWS, ZERO, ONE))

    def test_rows_of_one_answer_are_not_one_list(self):
        told = Deal(samples.book(), [[], [], []], [[]]).rows(0)
        told[0].append(7)
        self.assertEqual(told, [[7], [], []])

    def test_deals_made_of_a_deal_stand_apart(self):
        deal = samples.deal()
        for other in (deal.without(4), deal.sent(4, 0), deal.moved(4, 0, 1)):
            wanted = standing(other)
            spoil(other.rows(0))
            spoil(other.rows(1))
            spoil(other.cards(0))
            self.assertEqual(standing(other), wanted)
        self.assertEqual(standing(deal), (ROWS, ZERO, ONE))


class TestBeside(unittest.TestCase):
    def test_answers_hang_on_what_is_handed_in_alone(self):
        deal = samples.deal()
        other = Deal(deal.book(), [[1], [2, 5]], [[], [0, 4, 3]])
        small = Deal(Book([["na", "x"], ["na", "y"], ["mu"], ["b"], ["c"]]), [[0, 2], [4]], [[3], [1]])
        first = [ask(deal, *things()) for ask in QUESTIONS.values()]
        for ask in QUESTIONS.values():
            for asked in (things(unread=(1, 2)), things(heard=("na", "ni")), things(one=MORE, other=PLAN)):
                for some in (deal, other, small):
                    try:
                        ask(some, *asked)
                    except SnatchError:
                        pass
        self.assertEqual([ask(deal, *things()) for ask in QUESTIONS.values()], first)
        self.assertEqual([ask(samples.deal(), *things()) for ask in QUESTIONS.values()], first)

    def test_one_book_may_lie_in_two_deals(self):
        book = samples.book()
        one, other = Deal(book, [[0]], [[1]]), Deal(book, [[1]], [[0]])
        self.assertEqual((one.where(0), other.where(0)), ((0, 0, 0), (1, 0, 0)))
        self.assertEqual((moment(one, [0, 1], 0), moment(other, [0], 0)), (1, 0))

    def test_a_refused_question_changes_nothing(self):
        deal = samples.deal()
        before = [ask(deal, *things()) for ask in QUESTIONS.values()]
        for refused in (
            lambda: deal.rows(2),
            lambda: deal.swept((0, 0, 0, 9)),
            lambda: deal.without(3),
            lambda: deal.sent(0, 7),
            lambda: deal.moved(0, 0, 5),
            lambda: moment(deal, ALL, 3),
            lambda: judged(deal, ALL, list(BAD)),
            lambda: joined(deal, ALL, list(PLAN), list(BAD)),
            lambda: slow(deal, [0, 6]),
        ):
            with self.assertRaises(SnatchError):
                refused()
        self.assertEqual([ask(deal, *things()) for ask in QUESTIONS.values()], before)


if __name__ == "__main__":
    unittest.main()
