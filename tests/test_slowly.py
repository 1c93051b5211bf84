"""Tests of kimariji.slowly: promise 13, and NoVerse."""

import unittest
from functools import lru_cache
from itertools import product

import samples
from samples import ALL, ROWS, STRANGE

from kimariji.books import Book
from kimariji.deals import Deal
from kimariji.errors import NoVerse
from kimariji.plans import judged, taken_at
from kimariji.slowly import slow

LETTERS = "abcdefghijklmnopqrstuvwxyz"
TINY = [["a", "b"], ["a", "c"], ["d"]]
SMALL = [["a", "b", "c"], ["a", "b", "d"], ["a", "e"], ["f"]]
FORKED = [["a", "b", "c"], ["a", "b", "d"], ["a", "b", "e"], ["a", "f", "g"], ["a", "f", "h"], ["i", "j"]]
SPOTS = (None, (0, 0), (0, 1), (0, 2), (1, 0))


def wait_of(deal, rows, unread, plan):
    """The wait of a slow plan, or None where the plan isn't a slow one; by the words of point 13."""
    begun = [beginning for beginning, sweep in plan]
    good = all(samples.coming(rows, unread, b) and s in samples.sweeps_of(deal) for b, s in plan)
    sizes = [samples.plan_takes(deal, rows, plan, n) for n in set(unread) if deal.where(n) is not None]
    slowly = good and len(set(begun)) == len(begun) and None not in sizes
    return sum(sizes) if slowly and samples.is_faultless(deal, rows, unread, plan) else None


def least_of_all(deal, rows, unread):
    """The least wait, by going through all faultless plans that have no beginning twice."""
    choices = []
    for beginning in samples.beginnings(rows, unread):
        pairs = [(beginning, sweep) for sweep in samples.sweeps_of(deal)]
        choices.append([[]] + [[pair] for pair in pairs if samples.is_faultless(deal, rows, unread, [pair])])
    waits = [wait_of(deal, rows, unread, sum(chosen, [])) for chosen in product(*choices)]
    return min([wait for wait in waits if wait is not None])


def least_by_beginnings(deal, rows, unread):
    """The least wait, beginning by beginning, by going through each sweep of each and no sweep at all."""
    sweeps = samples.sweeps_of(deal)

    @lru_cache(None)
    def least(beginning, left):
        here = samples.coming(rows, unread, beginning)
        inside = left & frozenset(here)
        if not inside:
            return 0
        size = len(beginning)
        nexts = sorted({tuple(rows[n][:size + 1]) for n in here if len(rows[n]) > size})
        found = []
        for sweep in [None] + sweeps:
            if sweep is not None and any(samples.has_fault(deal, n, sweep) for n in here):
                continue
            taken = frozenset(n for n in inside if sweep is not None and samples.touches(deal, n, sweep))
            ended = [n for n in inside - taken if len(rows[n]) == size]
            waits = [least(onward, inside - taken) for onward in nexts]
            if not ended and None not in waits:
                found.append(size * len(taken) + sum(waits))
        return min(found) if found else None

    return least((), frozenset(n for n in unread if deal.where(n) is not None))


class TestSlow(unittest.TestCase):
    def check(self, deal, rows, unread, least):
        wait, plan = slow(deal, unread)
        self.assertEqual(wait, least)
        self.assertEqual(wait_of(deal, rows, unread, plan), wait)

    def test_one_row_is_taken_at_once(self):
        deal = Deal(Book(TINY), [[0, 1, 2]], [[]])
        self.assertEqual(slow(deal, [0, 1, 2]), (0, [((), (0, 0, 0, 2))]))

    def test_the_greater_row_goes_first(self):
        self.check(Deal(Book(TINY), [[0, 1], [2]], [[]]), TINY, [0, 1, 2], 1)
        self.check(Deal(Book(TINY), [[0], [2, 1]], [[]]), TINY, [0, 1, 2], 1)
        self.check(Deal(Book(TINY), [[0], [1], [2]], [[]]), TINY, [0, 1, 2], 2)

    def test_the_greatest_row_is_not_always_best(self):
        # With row 0 first, rows 1 and 2 wait for each other: 2 * 1 + 2 * 2. With row 1 first: 3 * 1 + 2 * 1.
        rows = [["a", "b", "c"], ["a", "b", "d"], ["a", "b", "e"], ["a", "b", "f"], ["g"], ["h"], ["i"]]
        self.check(Deal(Book(rows), [[4, 5, 6], [0, 1], [2, 3]], [[]]), rows, list(range(7)), 5)

    def test_both_fields(self):
        deal = samples.deal()
        self.check(deal, ROWS, ALL, 1 + 3 + 3 + 2 + 3)
        self.check(deal, ROWS, [0, 4, 5], 1)
        self.check(deal, ROWS, [1, 2, 4, 5], 2 + 3 + 3 + 3)

    def test_a_verse_that_lies_nowhere_keeps_hands_off(self):
        deal = Deal(Book(TINY), [[0, 2]], [[]])
        self.check(deal, TINY, [0, 1, 2], 3)
        self.check(deal, TINY, [0, 2], 0)
        self.check(deal, TINY, [1, 2], 1)

    def test_none_unread_and_none_that_lies(self):
        self.assertEqual(slow(samples.deal(), []), (0, []))
        self.assertEqual(slow(samples.deal(), [3]), (0, []))
        self.assertEqual(slow(Deal(Book(TINY), [[]], [[]]), [0, 1, 2]), (0, []))

    def test_order_and_repetition_of_unread_say_nothing(self):
        deal = samples.deal()
        for unread in ([4, 2, 1, 0], [0, 0, 4, 1, 2, 2]):
            self.check(deal, ROWS, unread, slow(deal, [0, 1, 2, 4])[0])

    def test_kinds_of_values(self):
        told = slow(samples.deal(), ALL)
        self.assertEqual((type(told), type(told[0]), type(told[1])), (tuple, int, list))
        self.assertEqual({type(thing) for pair in told[1] for thing in (pair, *pair)}, {tuple})

    def test_the_plan_answers_as_plans_are_asked(self):
        for deal in samples.all_laid(SMALL, SPOTS)[::3]:
            for unread in samples.subsets(range(4)):
                wait, plan = slow(deal, unread)
                lying = [verse for verse in unread if deal.where(verse) is not None]
                self.assertIsNone(judged(deal, unread, plan))
                self.assertEqual(sum(taken_at(deal, unread, plan, verse) for verse in lying), wait)

    def test_against_all_plans(self):
        for deal in samples.all_laid(TINY, SPOTS):
            for unread in samples.subsets(range(3)):
                self.check(deal, TINY, unread, least_of_all(deal, TINY, unread))

    def test_against_all_sweeps_of_each_beginning(self):
        for deal in samples.all_laid(SMALL, SPOTS):
            for unread in samples.subsets(range(4)):
                self.check(deal, SMALL, unread, least_by_beginnings(deal, SMALL, unread))

    def test_forks(self):
        for deal in samples.all_laid(FORKED, ((0, 0), (0, 1), (0, 2))):
            self.check(deal, FORKED, list(range(6)), least_by_beginnings(deal, FORKED, list(range(6))))
        for deal in samples.all_laid(FORKED, SPOTS)[::29]:
            self.check(deal, FORKED, list(range(6)), least_by_beginnings(deal, FORKED, list(range(6))))

    def test_no_verse(self):
        for number in STRANGE:
            for unread in ([number], [number, 1, 2], [1, number, 2], [1, 2, number]):
                with self.assertRaises(NoVerse):
                    slow(samples.deal(), unread)


class TestSoon(unittest.TestCase):
    """Full books, whose plans are far too many to go through."""

    def rows_first(self, deal, rows, unread, left, size):
        """The least wait behind one beginning, if whole rows are swept; all lie on field 0."""
        if not left:
            return 0
        waits = []
        for row in {deal.where(verse)[1] for verse in left}:
            still = [verse for verse in left if deal.where(verse)[1] != row]
            groups = {rows[verse][size]: [] for verse in still}
            for verse in still:
                groups[rows[verse][size]].append(verse)
            onward = [self.rows_first(deal, rows, unread, group, size + 1) for group in groups.values()]
            waits.append(size * (len(left) - len(still)) + sum(onward))
        return min(waits)

    def test_long_verses_that_share_much(self):
        rows = [["na"] * 7 + [LETTERS[n // 26] + LETTERS[n % 26]] for n in range(40)]
        deal = Deal(Book(rows), [list(range(0, 36, 3)), list(range(1, 36, 3)), list(range(2, 36, 3))], [[]])
        wait, plan = slow(deal, list(range(36)))
        self.assertEqual((wait, len(plan)), (12 * 0 + 12 * 1 + 12 * 2, 3))
        self.assertEqual(wait_of(deal, rows, list(range(36)), plan), wait)
        # Verse 36 lies nowhere, so that all the others wait for their last syllables.
        wait, plan = slow(deal, list(range(37)))
        self.assertEqual((wait, len(plan)), (36 * 8, 36))
        self.assertEqual(wait_of(deal, rows, list(range(37)), plan), wait)

    def test_forks_at_each_syllable(self):
        rows = [[LETTERS[n >> (5 - at) & 1] for at in range(6)] + ["x", "y"] for n in range(36)]
        unread = list(range(36))
        for turn in range(6):
            cards = [n * (2 * turn + 1) % 37 for n in range(37) if n * (2 * turn + 1) % 37 < 36]
            deal = Deal(Book(rows), [cards[:12], cards[12:24], cards[24:]], [[]])
            wait, plan = slow(deal, unread)
            self.assertEqual(wait, self.rows_first(deal, rows, unread, unread, 0))
            self.assertEqual(wait_of(deal, rows, unread, plan), wait)

    def test_both_fields_full_of_cards(self):
        rows = [[LETTERS[n // 10], LETTERS[n // 5 & 1], "z", LETTERS[n % 5], "z", "z", "z", "z"] for n in range(40)]
        unread = list(range(40))
        deal = Deal(Book(rows), [[0, 7, 14], [1, 2, 20], [3, 10, 11]], [[4, 30, 31], list(range(32, 40)), [5, 6, 8]])
        wait, plan = slow(deal, unread)
        self.assertEqual(wait_of(deal, rows, unread, plan), wait)
        self.assertEqual(wait, least_by_beginnings(deal, rows, unread))


if __name__ == "__main__":
    unittest.main()
