"""Tests of kimariji.table: promise 17, what the closing of a reading does."""

import unittest
from itertools import product

import samples
from match import Match, told
from samples import ALL, ROWS

from kimariji.books import Book
from kimariji.deals import Deal
from kimariji.errors import NotDue
from kimariji.table import Table

# Of the deal: verses 0, 4 and 5 lie on field 0, 1 and 2 on field 1, 3 nowhere.
AT_0, AT_1, AT_4 = (0, 0, 1, 1), (1, 1, 1, 1), (0, 1, 0, 0)
OTHER_ON_0, OTHER_ON_1 = (0, 1, 0, 0), (1, 1, 0, 0)


def table():
    return Table(samples.deal())


def played(some, verse, *touches):
    """The table with a reading closed, in which these touches (side, sweep) were made."""
    some.read(verse)
    for side, sweep in touches:
        some.touch(side, sweep)
    for syllable in some.deal().book().verse(verse):
        some.say()
    some.close()
    return some


def ends(some):
    """The last reading's winner and misses, the score, the faults, and what is due."""
    return (*some.readings()[-1][1:], some.score(), some.faults(), some.due())


class TestTheVerse(unittest.TestCase):
    def test_it_is_read_and_not_unread_any_more(self):
        some = table()
        for many, verse in enumerate((5, 3, 2)):
            played(some, verse)
            self.assertNotIn(verse, some.unread())
            self.assertEqual(len(some.unread()), 5 - many)
        self.assertEqual(some.unread(), [0, 1, 4])
        self.assertEqual([reading[0] for reading in some.readings()], [5, 3, 2])

    def test_its_card_leaves_the_field(self):
        self.assertEqual(played(table(), 5).deal().rows(0), [[0], [4]])
        self.assertEqual(played(table(), 4).deal().rows(0), [[5, 0], []])
        self.assertEqual(played(table(), 1).deal().rows(1), [[], [2]])
        self.assertEqual(played(table(), 2, (0, AT_1)).deal().rows(1), [[], [1]])
        some = played(table(), 3, (0, AT_0))
        self.assertEqual((some.deal().rows(0), some.deal().rows(1)), (samples.ZERO, samples.ONE))

    def test_nothing_is_being_read_behind_it(self):
        some = played(table(), 1, (0, AT_1))
        self.assertEqual((some.under(), some.heard(), some.touches()), (None, [], []))


class TestWinning(unittest.TestCase):
    def test_taken_by_none(self):
        self.assertEqual(ends(played(table(), 0)), (0, False, False, (1, 0), (0, 0), None))
        self.assertEqual(ends(played(table(), 1)), (1, False, False, (0, 1), (0, 0), None))

    def test_touched_beside_it(self):
        # No fault, since the sweep is on the card's field, but it does not take the card.
        some = played(table(), 0, (1, OTHER_ON_0))
        self.assertEqual(ends(some), (0, False, False, (1, 0), (0, 0), None))

    def test_taken_by_the_side_of_its_field(self):
        self.assertEqual(ends(played(table(), 0, (0, AT_0))), (0, False, False, (1, 0), (0, 0), None))
        self.assertEqual(ends(played(table(), 1, (1, AT_1))), (1, False, False, (0, 1), (0, 0), None))

    def test_taken_by_the_other_side(self):
        self.assertEqual(ends(played(table(), 0, (1, AT_0))), (1, False, False, (0, 1), (0, 0), (1, 1)))
        self.assertEqual(ends(played(table(), 1, (0, AT_1))), (0, False, False, (1, 0), (0, 0), (0, 1)))

    def test_taken_by_both_the_first_one_wins_it(self):
        self.assertEqual(ends(played(table(), 0, (1, AT_0), (0, AT_0))), (1, False, False, (0, 1), (0, 0), (1, 1)))
        self.assertEqual(ends(played(table(), 0, (0, AT_0), (1, AT_0))), (0, False, False, (1, 0), (0, 0), None))
        # A touch beside the card comes first, but takes nothing.
        some = played(table(), 0, (0, OTHER_ON_0), (1, AT_0), (0, AT_0))
        self.assertEqual(ends(some), (1, False, False, (0, 1), (0, 0), (1, 1)))

    def test_whoever_missed_may_win_it(self):
        some = played(table(), 0, (1, AT_1), (1, AT_0))
        self.assertEqual(ends(some), (1, False, True, (0, 1), (0, 1), None))

    def test_a_card_that_lies_nowhere(self):
        some = played(table(), 3)
        self.assertEqual(ends(some), (None, False, False, (0, 0), (0, 0), None))
        some = played(table(), 3, (0, AT_0))
        self.assertEqual(ends(some), (None, True, False, (0, 0), (1, 0), (1, 1)))

    def test_the_score_is_of_all_readings(self):
        some = played(played(played(table(), 5), 2), 0, (0, AT_0[:2] + (0, 0)))
        self.assertEqual(some.score(), (2, 1))


class TestMisses(unittest.TestCase):
    def test_one_side(self):
        self.assertEqual(ends(played(table(), 0, (0, AT_1))), (0, True, False, (1, 0), (1, 0), (1, 1)))
        self.assertEqual(ends(played(table(), 0, (1, AT_1))), (0, False, True, (1, 0), (0, 1), (0, 1)))

    def test_both_sides_even_out(self):
        some = played(table(), 0, (0, AT_1), (1, AT_1))
        self.assertEqual(ends(some), (0, True, True, (1, 0), (1, 1), None))
        some = played(table(), 3, (0, AT_1), (1, AT_0))
        self.assertEqual(ends(some), (None, True, True, (0, 0), (1, 1), None))

    def test_several_in_one_reading_are_one(self):
        some = played(table(), 0, (1, AT_1), (1, OTHER_ON_1), (1, AT_1))
        self.assertEqual(ends(some), (0, False, True, (1, 0), (0, 1), (0, 1)))

    def test_counted_over_the_readings(self):
        some = played(table(), 3, (0, AT_0), (1, AT_0))
        some = played(some, 5, (0, AT_1), (1, AT_1))
        self.assertEqual((some.faults(), some.due()), ((2, 2), None))
        self.assertEqual(some.readings(), [(3, None, True, True), (5, 0, True, True)])


class TestGifts(unittest.TestCase):
    def test_from_two_causes(self):
        # Side 0 takes a card of field 1, and side 1 missed.
        some = played(table(), 1, (0, AT_1), (1, AT_0))
        self.assertEqual(ends(some), (0, False, True, (1, 0), (0, 1), (0, 2)))
        some.send(4, 0)
        self.assertEqual(some.due(), (0, 1))
        some.waive()
        self.assertIsNone(some.due())
        for deed in (some.waive, lambda: some.send(0, 0)):
            with self.assertRaises(NotDue):
                deed()

    def test_one_evened_out_by_the_other(self):
        # Side 1 takes a card of field 0 and missed as well.
        some = played(table(), 0, (1, AT_1), (1, AT_0))
        self.assertEqual((some.faults(), some.due()), ((0, 1), None))
        # Side 1 takes it, and both missed.
        some = played(table(), 0, (0, AT_1), (1, AT_1), (1, AT_0))
        self.assertEqual((some.faults(), some.due()), ((1, 1), (1, 1)))

    def test_cut_down_by_the_cards_left(self):
        some = played(Table(Deal(samples.book(), [[0]], [[1, 2]])), 1, (0, (1, 0, 0, 0)), (1, (0, 0, 0, 0)))
        self.assertEqual(ends(some), (0, False, True, (1, 0), (0, 1), (0, 1)))
        some.send(0, 0)
        self.assertEqual((some.due(), some.winner(), some.deal().rows(1)), (None, 0, [[2, 0]]))

    def test_none_where_no_card_is_left(self):
        # Side 1 missed, but with verse 0 the last card of side 0 has gone.
        some = played(Table(Deal(samples.book(), [[0]], [[1, 2]])), 0, (1, (1, 0, 0, 0)))
        self.assertEqual(ends(some), (0, False, True, (1, 0), (0, 1), None))
        self.assertEqual(some.winner(), 0)

    def test_the_card_that_leaves_is_not_counted_as_left(self):
        some = played(Table(Deal(samples.book(), [[0], [4]], [[1]])), 0, (1, (1, 0, 0, 0)))
        self.assertEqual(some.due(), (0, 1))
        some = played(Table(Deal(samples.book(), [[0], [4]], [[1]])), 3, (1, (1, 0, 0, 0)))
        self.assertEqual(some.due(), (0, 1))

    def test_sent_one_behind_the_other(self):
        some = played(table(), 2, (0, OTHER_ON_1), (1, AT_0))
        some.send(5, 0)
        some.send(0, 0)
        self.assertEqual((some.deal().rows(0), some.deal().rows(1)), ([[], [4]], [[5, 0], [1]]))
        some.read(0)
        self.assertEqual(some.under(), 0)


class TestByTheWords(unittest.TestCase):
    def test_each_two_touches_of_each_verse(self):
        fields = ((samples.ZERO, samples.ONE), ([[0]], [[1], [2]]), ([[1, 4], []], [[5]]))
        for zero, one in fields:
            sweeps = samples.sweeps_of(Deal(samples.book(), zero, one))
            touches = [(side, sweep) for side in (0, 1) for sweep in sweeps]
            for verse, first, second in product(ALL, [None] + touches, touches):
                some, match = Table(Deal(Book(ROWS), zero, one)), Match(ROWS, zero, one)
                made = [touch for touch in (first, second) if touch is not None]
                played(some, verse, *made)
                match.do("read", verse)
                for side, sweep in made:
                    match.do("touch", side, sweep)
                match.do("close")
                self.assertEqual((*ends(some), some.winner()), self.ends(match))
        self.assertEqual(told(some), match.told())

    def ends(self, match):
        return (*match.closed[-1][1:], tuple(match.won), tuple(match.missed), match.due(), match.winner())


if __name__ == "__main__":
    unittest.main()
