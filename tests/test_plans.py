"""Tests of kimariji.plans: promises 10, 11 and 12, and its refusals in their order."""

import unittest
from itertools import product

import samples
from samples import ALL, LOST, ROWS, STRANGE

from kimariji.deals import Deal
from kimariji.errors import BadPlan, NoVerse
from kimariji.hearing import moment
from kimariji.plans import earliest, joined, judged, taken_at

GOOD = (("na",), (0, 0, 0, 0))
SMALL = [["a", "b", "c"], ["a", "b", "d"], ["a", "e"], ["f"]]
SPOTS = (None, (0, 0), (0, 2), (1, 1))


def bad_pairs(unread):
    """Pairs that are not good beside these unread verses."""
    lost = [((), sweep) for sweep, name in LOST]
    strangers = [("x",), ("",), ("NA",), ("na", "x"), ("na", "ni", "wa", "wa"), ("n",), ("ni",), ("su",) * 30]
    read = [tuple(ROWS[verse]) for verse in ALL if verse not in unread]
    return lost + [(beginning, (0, 0, 0, 0)) for beginning in strangers + read]


class TestJudged(unittest.TestCase):
    def setUp(self):
        self.deal = samples.deal()

    def test_faultless(self):
        for plan in (
            [(("mu",), (0, 0, 0, 0))],
            [(("mu",), (0, 1, 0, 0)), (("mu", "ra"), (0, 0, 0, 1)), (("na", "ge"), (0, 1, 0, 0))],
            [(("na", "ni", "shi"), (1, 1, 1, 1)), (("na", "ni", "ho"), (0, 0, 0, 0))],
        ):
            self.assertIsNone(judged(self.deal, ALL, plan))

    def test_an_empty_plan(self):
        for unread in samples.subsets(ALL):
            self.assertIsNone(judged(self.deal, unread, []))

    def test_the_first_place_and_the_least_verse(self):
        first, second, third = (("mu",), (0, 0, 0, 0)), (("na",), (0, 0, 0, 0)), ((), (1, 1, 0, 0))
        self.assertEqual(judged(self.deal, ALL, [first, second, third]), (1, 1))
        self.assertEqual(judged(self.deal, ALL, [first, first, third, second]), (2, 0))
        self.assertEqual(judged(self.deal, [5, 4, 2, 2], [second]), (0, 2))
        self.assertEqual(judged(self.deal, [5, 4, 1], [(("na",), (1, 1, 0, 0))]), (0, 4))
        self.assertEqual(judged(self.deal, ALL, [(("su",), (0, 0, 0, 0))]), (0, 3))

    def test_a_pair_may_stand_more_than_once(self):
        pair = (("mu",), (0, 0, 0, 0))
        self.assertIsNone(judged(self.deal, ALL, [pair] * 5))
        self.assertEqual(judged(self.deal, ALL, [pair, pair, GOOD, GOOD]), (2, 1))

    def test_by_the_words_of_the_document(self):
        for unread in samples.subsets(ALL):
            pairs = list(product(samples.beginnings(ROWS, unread), samples.sweeps_of(self.deal)))
            for plan in [[pair] for pair in pairs] + [pairs, pairs[::-1], pairs[::3]]:
                faults = [
                    (place, verse)
                    for place, (beginning, sweep) in enumerate(plan)
                    for verse in samples.coming(ROWS, unread, beginning)
                    if samples.has_fault(self.deal, verse, sweep)
                ]
                self.assertEqual(judged(self.deal, unread, plan), faults[0] if faults else None)

    def test_kind_of_value(self):
        self.assertIs(type(judged(self.deal, ALL, [GOOD])), tuple)


class TestTakenAt(unittest.TestCase):
    def setUp(self):
        self.deal = samples.deal()

    def test_the_least_size(self):
        plan = [
            (("na", "ni", "ho"), (0, 0, 0, 0)),
            (("na", "ni"), (0, 0, 0, 1)),
            (("na", "ni"), (1, 1, 1, 1)),
            (("na",), (0, 1, 0, 0)),
            ((), (0, 0, 1, 1)),
        ]
        self.assertEqual([taken_at(self.deal, ALL, plan, verse) for verse in ALL], [0, 2, None, None, 1, 2])

    def test_never(self):
        for verse in ALL:
            self.assertIsNone(taken_at(self.deal, ALL, [], verse))
        # The beginning begins another verse alone, and the sweep touches another card alone.
        self.assertIsNone(taken_at(self.deal, ALL, [(("mu",), (0, 1, 0, 0))], 4))
        self.assertIsNone(taken_at(self.deal, ALL, [(("na",), (0, 0, 1, 1))], 5))

    def test_the_verse_may_be_read(self):
        self.assertEqual(taken_at(self.deal, [1], [(("na",), (0, 1, 0, 0))], 4), 1)
        self.assertEqual(taken_at(self.deal, [1, 4], [(("na",), (0, 1, 0, 0))], 4), 1)
        self.assertEqual(taken_at(self.deal, [3], [((), (1, 1, 0, 1))], 2), 0)

    def test_a_whole_verse(self):
        self.assertEqual(taken_at(self.deal, ALL, [(("na", "ni", "wa"), (1, 1, 1, 1))], 1), 3)

    def test_a_verse_that_lies_nowhere_is_never_taken(self):
        plan = [((), sweep) for sweep in samples.sweeps_of(self.deal)]
        self.assertIsNone(taken_at(self.deal, ALL, plan, 3))

    def test_a_fault_takes_all_the_same(self):
        self.assertEqual(taken_at(self.deal, ALL, [((), (0, 0, 0, 1))], 5), 0)

    def test_by_the_words_of_the_document(self):
        for unread in samples.subsets(ALL):
            pairs = list(product(samples.beginnings(ROWS, unread), samples.sweeps_of(self.deal)))
            plans = [pairs[start::step] for step in (3, 5, 7, 11) for start in range(step)]
            for plan, verse in product(plans, ALL):
                told = samples.plan_takes(self.deal, ROWS, plan, verse)
                self.assertEqual(taken_at(self.deal, unread, plan, verse), told)


class TestEarliest(unittest.TestCase):
    def setUp(self):
        self.deal = samples.deal()

    def test_all_unread(self):
        told = [
            (("mu",), (0, 0, 1, 1)),
            (("na", "ni", "wa"), (1, 1, 1, 1)),
            (("na", "ni", "shi"), (1, 1, 0, 0)),
            (("na", "ge"), (0, 1, 0, 0)),
            (("na", "ni", "ho"), (0, 0, 0, 0)),
        ]
        self.assertEqual(earliest(self.deal, ALL), told)
        self.assertEqual(earliest(self.deal, [5, 4, 4, 3, 2, 1, 0, 0]), told)

    def test_all_on_one_field(self):
        self.assertEqual(earliest(self.deal, [0, 4, 5]), [((), (0, 0, 0, 1)), ((), (0, 1, 0, 0))])
        self.assertEqual(earliest(self.deal, [2, 1]), [((), (1, 1, 0, 1))])

    def test_one_beginning_for_several_verses(self):
        told = [(("mu",), (0, 0, 1, 1)), (("na",), (1, 1, 0, 1))]
        self.assertEqual(earliest(self.deal, [0, 1, 2]), told)

    def test_the_least_verse_goes_first(self):
        deal = Deal(samples.book(), [[4, 5, 1]], [[3, 0]])
        told = [((("mu",), (1, 0, 1, 1))), (("na",), (0, 0, 0, 2)), (("su",), (1, 0, 0, 0))]
        self.assertEqual(earliest(deal, [0, 1, 3, 4, 5]), told)
        self.assertEqual(earliest(deal, [3, 4, 5]), [(("su",), (1, 0, 0, 0)), (("na",), (0, 0, 0, 1))])

    def test_none_unread_and_none_that_lies(self):
        self.assertEqual(earliest(self.deal, []), [])
        self.assertEqual(earliest(self.deal, [3]), [])

    def test_by_the_words_of_the_document(self):
        for deal in samples.all_laid(SMALL, SPOTS):
            for unread in samples.subsets(range(4)):
                self.assertEqual(earliest(deal, unread), self.told(deal, unread))

    def told(self, deal, unread):
        def fits(beginning):
            fields = {samples.field_of(deal, n) for n in samples.coming(SMALL, unread, beginning)}
            return len(fields) == 1 and None not in fields

        found = [
            beginning
            for beginning in samples.beginnings(SMALL, unread)
            if fits(beginning) and not any(fits(beginning[:size]) for size in range(len(beginning)))
        ]
        found.sort(key=lambda beginning: samples.coming(SMALL, unread, beginning)[0])
        return [(b, sweep) for b in found for sweep in deal.cover(samples.coming(SMALL, unread, b))]

    def test_it_is_faultless_and_takes_each_verse_at_its_moment(self):
        for deal in samples.all_laid(SMALL, SPOTS):
            for unread in samples.subsets(range(4)):
                plan = earliest(deal, unread)
                self.assertIsNone(judged(deal, unread, plan))
                for verse in unread:
                    told = None if deal.where(verse) is None else moment(deal, unread, verse)
                    self.assertEqual(taken_at(deal, unread, plan, verse), told)

    def test_no_faultless_plan_takes_an_unread_verse_earlier(self):
        for deal in samples.all_laid(SMALL, SPOTS):
            for unread in samples.subsets(range(4)):
                pairs = product(samples.beginnings(SMALL, unread), samples.sweeps_of(deal))
                free = [pair for pair in pairs if samples.is_faultless(deal, SMALL, unread, [pair])]
                plan = earliest(deal, unread)
                for verse in unread:
                    best = samples.plan_takes(deal, SMALL, free, verse)
                    self.assertEqual(taken_at(deal, unread, plan, verse), best)

    def test_kinds_of_values(self):
        plan = earliest(self.deal, ALL)
        self.assertIs(type(plan), list)
        self.assertEqual({type(pair) for pair in plan}, {tuple})
        self.assertEqual({type(thing) for pair in plan for thing in pair}, {tuple})


class TestJoined(unittest.TestCase):
    def setUp(self):
        self.deal = samples.deal()
        self.pairs = [(("na",), (0, 0, 0, 0)), (("na",), (0, 0, 0, 1)), (("mu",), (0, 0, 0, 0)), ((), (1, 1, 0, 0))]

    def test_pairs_of_the_second_that_do_not_stand_in_the_first(self):
        a, b, c, d = self.pairs
        self.assertEqual(joined(self.deal, ALL, [a, b], [c, d]), [a, b, c, d])
        self.assertEqual(joined(self.deal, ALL, [a, b], [b, c, a]), [a, b, c])
        self.assertEqual(joined(self.deal, ALL, [b, a], [d, a, c]), [b, a, d, c])

    def test_each_as_often_as_it_stands(self):
        a, b, c, d = self.pairs
        self.assertEqual(joined(self.deal, ALL, [a, a, b], [c, a, c, b, c]), [a, a, b, c, c, c])
        self.assertEqual(joined(self.deal, ALL, [], [c, d, c]), [c, d, c])
        self.assertEqual(joined(self.deal, ALL, [a, a], [a]), [a, a])

    def test_pairs_that_differ_in_one_thing(self):
        a, b, c, d = self.pairs
        self.assertEqual(joined(self.deal, ALL, [a], [b, c]), [a, b, c])

    def test_empty_plans(self):
        self.assertEqual(joined(self.deal, ALL, [], []), [])
        self.assertEqual(joined(self.deal, [], [], []), [])
        self.assertEqual(joined(self.deal, ALL, self.pairs, []), self.pairs)

    def test_with_itself(self):
        self.assertEqual(joined(self.deal, ALL, self.pairs, self.pairs), self.pairs)

    def test_plans_with_faults_are_laid_together_too(self):
        a, b, c, d = self.pairs
        self.assertEqual(judged(self.deal, ALL, joined(self.deal, ALL, [c], [d])), (1, 0))


class TestBadPlan(unittest.TestCase):
    def setUp(self):
        self.deal = samples.deal()

    def place(self, ask):
        with self.assertRaises(BadPlan) as caught:
            ask()
        return caught.exception.place

    def questions(self, unread, plan):
        yield lambda: judged(self.deal, unread, plan)
        yield lambda: taken_at(self.deal, unread, plan, 4)
        yield lambda: joined(self.deal, unread, plan, [])
        yield lambda: joined(self.deal, unread, [], plan)
        yield lambda: joined(self.deal, unread, [GOOD], plan)

    def test_each_pair_that_is_not_good(self):
        unread = [1, 3]
        for pair in bad_pairs(unread):
            for ahead in range(3):
                for ask in self.questions(unread, [GOOD] * ahead + [pair, GOOD]):
                    self.assertEqual(self.place(ask), ahead, pair)

    def test_the_first_place(self):
        for first, second in product(bad_pairs(ALL)[:12:3], repeat=2):
            for ask in self.questions(ALL, [GOOD, first, GOOD, second]):
                self.assertEqual(self.place(ask), 1)

    def test_where_nothing_is_unread_no_pair_is_good(self):
        for ask in self.questions([], [((), (0, 0, 0, 0))]):
            self.assertEqual(self.place(ask), 0)

    def test_it_goes_ahead_of_a_fault(self):
        fault = ((), (0, 0, 0, 0))
        self.assertEqual(judged(self.deal, ALL, [fault]), (0, 1))
        for ask in self.questions(ALL, [fault, (("x",), (0, 0, 0, 0))]):
            self.assertEqual(self.place(ask), 1)

    def test_pairs_that_say_nothing_of_the_verse(self):
        self.assertEqual(self.place(lambda: taken_at(self.deal, ALL, [(("mu",), (0, 0, 0, 2))], 4)), 0)
        self.assertEqual(self.place(lambda: taken_at(self.deal, ALL, [(("x",), (0, 0, 0, 0))], 3)), 0)

    def test_of_two_the_first_one_is_refused(self):
        bad = (("x",), (0, 0, 0, 0))
        self.assertEqual(self.place(lambda: joined(self.deal, ALL, [GOOD, GOOD, bad], [bad])), 2)
        self.assertEqual(self.place(lambda: joined(self.deal, ALL, [bad], [GOOD, bad])), 0)
        self.assertEqual(self.place(lambda: joined(self.deal, ALL, [GOOD], [GOOD, bad])), 1)


class TestNoVerse(unittest.TestCase):
    def test_it_goes_ahead_of_bad_plan(self):
        deal = samples.deal()
        bad = [(("x",), (9, 9, 9, 9))]
        for number, plan in product(STRANGE, ([], bad, [GOOD])):
            for unread in ([number], [number, 1], [1, number]):
                for ask in (
                    lambda: judged(deal, unread, plan),
                    lambda: taken_at(deal, unread, plan, 0),
                    lambda: earliest(deal, unread),
                    lambda: joined(deal, unread, plan, plan),
                    lambda: joined(deal, unread, [], plan),
                ):
                    with self.assertRaises(NoVerse):
                        ask()
            for unread in ([], ALL, [number]):
                with self.assertRaises(NoVerse):
                    taken_at(deal, unread, plan, number)


if __name__ == "__main__":
    unittest.main()
