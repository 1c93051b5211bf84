"""Tests of kimariji.hearing: promises 7 (faults and takings), 8 and 9, and its refusals in their order."""

import unittest
from itertools import product

import samples
from samples import ALL, LOST, ROWS, STRANGE

from kimariji import errors
from kimariji.deals import Deal
from kimariji.errors import NoCard, NoVerse
from kimariji.hearing import faultless, is_fault, is_taken, moment, sure, witness

HEARD = [list(beginning) for beginning in samples.beginnings(ROWS, ALL)] + [["x"], ["na", "x"], ["su", "su"]]
SMALL = [["a", "b", "c"], ["a", "b", "d"], ["a", "e"], ["f"]]
SPOTS = (None, (0, 0), (0, 2), (1, 1))


class TestFaultsAndTakings(unittest.TestCase):
    def setUp(self):
        self.deal = samples.deal()

    def test_a_fault_hangs_on_the_field_alone(self):
        for sweep in ((0, 0, 0, 0), (0, 0, 1, 1), (0, 0, 0, 1), (0, 1, 0, 0)):
            self.assertEqual([is_fault(self.deal, verse, sweep) for verse in ALL],
                             [False, True, True, True, False, False])
        for sweep in ((1, 1, 0, 0), (1, 1, 1, 1), (1, 1, 0, 1)):
            self.assertEqual([is_fault(self.deal, verse, sweep) for verse in ALL],
                             [True, False, False, True, True, True])

    def test_a_taking_is_a_touch(self):
        takes = {(0, 0, 0, 0): [5], (0, 0, 1, 1): [0], (0, 0, 0, 1): [0, 5], (0, 1, 0, 0): [4],
                 (1, 1, 0, 0): [2], (1, 1, 1, 1): [1], (1, 1, 0, 1): [1, 2]}
        for sweep, taken in takes.items():
            self.assertEqual([verse for verse in ALL if is_taken(self.deal, verse, sweep)], taken)

    def test_each_is_a_fault_where_the_card_lies_nowhere(self):
        for sweep in samples.sweeps_of(self.deal):
            self.assertIs(is_fault(self.deal, 3, sweep), True)
            self.assertIs(is_taken(self.deal, 3, sweep), False)

    def test_kinds_of_values(self):
        for verse, sweep in product(ALL, samples.sweeps_of(self.deal)):
            self.assertIs(is_fault(self.deal, verse, sweep), samples.has_fault(self.deal, verse, sweep))
            self.assertIs(is_taken(self.deal, verse, sweep), samples.touches(self.deal, verse, sweep))

    def test_a_lost_sweep(self):
        for verse, (sweep, name) in product(ALL, LOST):
            for ask in (is_fault, is_taken):
                with self.assertRaises(getattr(errors, name), msg=(verse, sweep)):
                    ask(self.deal, verse, sweep)

    def test_no_verse_goes_ahead_of_a_lost_sweep(self):
        for verse in STRANGE:
            for sweep in [(0, 0, 0, 0)] + [sweep for sweep, name in LOST]:
                for ask in (is_fault, is_taken):
                    with self.assertRaises(NoVerse):
                        ask(self.deal, verse, sweep)


class TestFaultless(unittest.TestCase):
    def setUp(self):
        self.deal = samples.deal()

    def test_by_what_may_come(self):
        self.assertEqual(faultless(self.deal, ALL, []), [])
        self.assertEqual(faultless(self.deal, ALL, ["mu"]), [0])
        self.assertEqual(faultless(self.deal, ALL, ["na"]), [])
        self.assertEqual(faultless(self.deal, ALL, ["na", "ni", "shi"]), [1])
        self.assertEqual(faultless(self.deal, [1, 2], ["na"]), [1])
        self.assertEqual(faultless(self.deal, [0, 4, 5], []), [0])

    def test_both_where_no_verse_may_come(self):
        for heard in (["x"], ["su", "su"], ["na", ""], ["mu", "ra", "ra"]):
            self.assertEqual(faultless(self.deal, ALL, heard), [0, 1])
        self.assertEqual(faultless(self.deal, [], []), [0, 1])
        self.assertEqual(faultless(self.deal, [1, 2], ["mu"]), [0, 1])

    def test_none_where_a_verse_that_may_come_lies_nowhere(self):
        self.assertEqual(faultless(self.deal, ALL, ["su"]), [])
        self.assertEqual(faultless(self.deal, [3], []), [])
        self.assertEqual(faultless(self.deal, [0, 3], []), [])

    def test_order_and_repetition_of_unread_say_nothing(self):
        self.assertEqual(faultless(self.deal, [5, 4, 0, 4, 5], []), [0])

    def test_by_the_words_of_the_document(self):
        for unread, heard in product(samples.subsets(ALL), HEARD):
            comings = samples.coming(ROWS, unread, heard)
            told = [f for f in (0, 1) if all(samples.field_of(self.deal, n) == f for n in comings)]
            self.assertEqual(faultless(self.deal, unread, heard), told)


class TestWitness(unittest.TestCase):
    def setUp(self):
        self.deal = samples.deal()

    def test_by_the_words_of_the_document(self):
        for unread, heard in product(samples.subsets(ALL), HEARD):
            for sweep in samples.sweeps_of(self.deal):
                told = witness(self.deal, unread, heard, sweep)
                if sweep[0] in faultless(self.deal, unread, heard):
                    self.assertIsNone(told)
                else:
                    self.assertIn(told, samples.coming(ROWS, unread, heard))
                    self.assertTrue(is_fault(self.deal, told, sweep))

    def test_a_lone_one(self):
        self.assertEqual(witness(self.deal, [0, 2, 4, 5], [], (0, 0, 0, 0)), 2)
        self.assertEqual(witness(self.deal, ALL, ["su"], (0, 0, 0, 0)), 3)
        self.assertEqual(witness(self.deal, ALL, ["mu"], (1, 1, 0, 0)), 0)
        self.assertIsNone(witness(self.deal, ALL, ["mu"], (0, 1, 0, 0)))

    def test_a_lost_sweep_is_refused_also_where_no_verse_may_come(self):
        for sweep, name in LOST:
            for unread, heard in ((ALL, []), (ALL, ["x"]), ([], []), ([3], ["su"]), ([0], ["mu"])):
                with self.assertRaises(getattr(errors, name), msg=sweep):
                    witness(self.deal, unread, heard, sweep)

    def test_no_verse_goes_ahead_of_a_lost_sweep(self):
        for sweep in [(0, 0, 0, 0)] + [sweep for sweep, name in LOST]:
            for number in STRANGE:
                with self.assertRaises(NoVerse):
                    witness(self.deal, [0, number], ["x"], sweep)


class TestSure(unittest.TestCase):
    def setUp(self):
        self.deal = samples.deal()

    def test_the_cover_of_what_may_come(self):
        self.assertEqual(sure(self.deal, ALL, ["mu"]), [(0, 0, 1, 1)])
        self.assertEqual(sure(self.deal, [0, 4, 5], []), [(0, 0, 0, 1), (0, 1, 0, 0)])
        self.assertEqual(sure(self.deal, [1, 2], ["na", "ni"]), [(1, 1, 0, 1)])
        self.assertEqual(sure(self.deal, [4, 5], ["na"]), [(0, 0, 0, 0), (0, 1, 0, 0)])

    def test_none_is_told_where_no_sweeps_do_so(self):
        self.assertIsNone(sure(self.deal, ALL, []))
        self.assertIsNone(sure(self.deal, ALL, ["na", "ni"]))
        self.assertIsNone(sure(self.deal, [3], []))
        self.assertIsNone(sure(self.deal, ALL, ["su"]))
        self.assertIsNone(sure(self.deal, [0, 3], []))

    def test_no_sweeps_where_none_may_come(self):
        for unread, heard in ((ALL, ["x"]), ([], []), ([0, 1], ["su"]), (ALL, ["su", "su"])):
            self.assertEqual(sure(self.deal, unread, heard), [])

    def test_by_the_words_of_the_document(self):
        for unread, heard in product(samples.subsets(ALL), HEARD):
            comings = samples.coming(ROWS, unread, heard)
            told = sure(self.deal, unread, heard)
            fields = {samples.field_of(self.deal, n) for n in comings}
            self.assertEqual(told is None, None in fields or len(fields) > 1)
            if told is not None:
                self.assertEqual(told, self.deal.cover(comings))
                for verse in comings:
                    self.assertTrue(any(is_taken(self.deal, verse, sweep) for sweep in told))
                    self.assertFalse(any(is_fault(self.deal, verse, sweep) for sweep in told))


class TestMoment(unittest.TestCase):
    def setUp(self):
        self.deal = samples.deal()

    def test_all_unread(self):
        self.assertEqual([moment(self.deal, ALL, verse) for verse in (0, 1, 2, 4, 5)], [1, 3, 3, 2, 3])

    def test_fewer_unread(self):
        self.assertEqual([moment(self.deal, [0, 4, 5], verse) for verse in (0, 4, 5)], [0, 0, 0])
        self.assertEqual([moment(self.deal, [1, 2, 4], verse) for verse in (1, 2, 4)], [2, 2, 2])
        self.assertEqual([moment(self.deal, [1, 2, 3], verse) for verse in (1, 2)], [1, 1])

    def test_no_other_unread(self):
        for verse in (0, 1, 2, 4, 5):
            self.assertEqual(moment(self.deal, [], verse), 0)
            self.assertEqual(moment(self.deal, [verse, verse], verse), 0)

    def test_whether_the_verse_is_unread_says_nothing(self):
        for unread, verse in product(samples.subsets(ALL), (0, 1, 2, 4, 5)):
            without = [number for number in unread if number != verse]
            self.assertEqual(moment(self.deal, without + [verse], verse), moment(self.deal, without, verse))

    def test_a_rival_that_lies_nowhere_lies_on_no_field(self):
        deal = Deal(samples.book(), [[1]], [[]])
        self.assertEqual(moment(deal, [1, 2], 1), 3)
        self.assertEqual(moment(deal, [1, 4], 1), 2)
        self.assertEqual(moment(deal, [1, 3], 1), 1)

    def test_by_the_words_of_the_document(self):
        for deal in samples.all_laid(SMALL, SPOTS):
            for unread, verse in product(samples.subsets(range(4)), range(4)):
                if deal.where(verse) is None:
                    continue
                told = moment(deal, unread, verse)
                field = samples.field_of(deal, verse)
                others = [number for number in unread if number != verse]
                for size in range(5):
                    begin = SMALL[verse][:size]
                    sharing = [n for n in others if len(begin) == size and SMALL[n][:size] == begin]
                    fits = all(samples.field_of(deal, n) == field for n in sharing)
                    self.assertTrue(fits if size == told else True)
                    self.assertFalse(fits if size < told else False)

    def test_from_it_on_sweeps_on_its_field_are_faultless(self):
        for unread in samples.subsets(ALL):
            for verse in [verse for verse in unread if verse != 3]:
                told = moment(self.deal, unread, verse)
                for size in range(len(ROWS[verse]) + 1):
                    free = samples.field_of(self.deal, verse) in faultless(self.deal, unread, ROWS[verse][:size])
                    self.assertEqual(free, size >= told)

    def test_no_card(self):
        for unread in ([], [3], ALL, [0, 1]):
            with self.assertRaises(NoCard):
                moment(self.deal, unread, 3)

    def test_no_verse_goes_ahead_of_no_card(self):
        for number in STRANGE:
            for unread, verse in (([], number), (ALL, number), ([number], number), ([3, number], 3), ([number, 0], 0)):
                with self.assertRaises(NoVerse):
                    moment(self.deal, unread, verse)


class TestNoVerse(unittest.TestCase):
    def test_each_place_of_the_list(self):
        deal = samples.deal()
        for number in STRANGE:
            for unread in ([number], [number, 1, 2], [1, number, 2], [1, 2, number]):
                for heard in ([], ["na"], ["x"]):
                    for ask in (faultless, sure):
                        with self.assertRaises(NoVerse):
                            ask(deal, unread, heard)


if __name__ == "__main__":
    unittest.main()
