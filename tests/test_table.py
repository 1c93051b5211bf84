"""Tests of kimariji.table: promises 15 and 16, what a table tells, and its twin."""

import unittest
from itertools import islice, product
from random import Random

import samples
from match import Match, sight, some_deed, told
from samples import ALL, GREAT, LOST, ONE, ROWS, STRANGE, ZERO

from kimariji import errors
from kimariji.books import Book
from kimariji.deals import Deal
from kimariji.errors import (
    AllSaid, BadDeal, Full, GiftDue, NoCard, NoField, NoPlace, NoSide, NotDue, NotRead, NoVerse, Over, ReadAlready,
    Reading, SnatchError, TooEarly,
)
from kimariji.hearing import witness
from kimariji.table import Table

LETTERS = "abcdefghijklmnopqrstuvwxyz"
WIDE = [[LETTERS[number // 26] + LETTERS[number % 26]] for number in range(40)]
ODD = (-GREAT, -3, -2, -1, 2, 3, 4, 12, 13, GREAT)
NO_SIDES = (-GREAT, -2, -1, 2, 3, GREAT)
SWEEP = (0, 0, 0, 1)


def table():
    return Table(samples.deal())


def wide(zero, one):
    return Table(Deal(Book(WIDE), zero, one))


def say_all(some):
    while len(some.heard()) < len(some.deal().book().verse(some.under())):
        some.say()


def played(some, verse, *touches):
    """The table with a reading closed, in which these touches (side, sweep) were made."""
    some.read(verse)
    for side, sweep in touches:
        some.touch(side, sweep)
    say_all(some)
    some.close()
    return some


def with_gift():
    """Side 0 has taken verse 2 from field 1: one gift is due, to be sent from field 0."""
    return played(table(), 2, (0, (1, 1, 0, 0)))


def ended():
    """Side 0 has no card left."""
    return played(Table(Deal(samples.book(), [[0]], [[1, 2], []])), 0)


class TestAtFirst(unittest.TestCase):
    def test_what_it_tells(self):
        some = table()
        self.assertEqual((some.deal().rows(0), some.deal().rows(1)), (ZERO, ONE))
        self.assertEqual(some.unread(), ALL)
        self.assertEqual((some.under(), some.heard(), some.touches(), some.readings()), (None, [], [], []))
        self.assertEqual((some.score(), some.faults(), some.due(), some.winner()), ((0, 0), (0, 0), None, None))
        self.assertEqual(some.free(), [])
        self.assertEqual([some.deciding(verse) for verse in (0, 1, 3)], [["mu"], ["na", "ni", "wa"], ["su"]])
        self.assertEqual(told(some), Match(ROWS, ZERO, ONE).told())

    def test_all_verses_are_unread_also_those_that_lie_nowhere(self):
        self.assertEqual(wide([[39]], [[0]]).unread(), list(range(40)))

    def test_bad_deal(self):
        for zero, one in (([[]], [[]]), ([[0]], [[], []]), ([[], [], []], [[0, 1]])):
            with self.assertRaises(BadDeal):
                Table(Deal(samples.book(), zero, one))

    def test_one_card_each_is_enough(self):
        some = Table(Deal(samples.book(), [[], [0]], [[], [], [1]]))
        self.assertIsNone(some.winner())

    def test_kinds_of_values(self):
        some = with_gift()
        some.waive()
        some.read(0)
        some.say()
        some.touch(1, SWEEP)
        kinds = {"unread": list, "under": int, "heard": list, "touches": list, "readings": list, "score": tuple,
                 "faults": tuple, "free": list, "plan": list}
        self.assertEqual({name: type(getattr(some, name)()) for name in kinds}, kinds)
        self.assertEqual([type(triple) for triple in some.touches()], [tuple])
        self.assertEqual([type(reading) for reading in some.readings()], [tuple])
        self.assertEqual([type(thing) for thing in some.readings()[0]], [int, int, bool, bool])
        self.assertIs(type(with_gift().due()), tuple)
        self.assertIs(type(some.deal()), Deal)


class TestDeeds(unittest.TestCase):
    def test_each_tells_none(self):
        some = table()
        self.assertIsNone(some.move(0, 4, 0, 0))
        self.assertIsNone(some.read(2))
        self.assertIsNone(some.say())
        self.assertIsNone(some.touch(0, (1, 1, 0, 0)))
        self.assertIsNone(some.hush())
        played(some, 2, (0, (1, 1, 0, 0)))
        self.assertIsNone(some.strike(2))
        self.assertIsNone(some.waive())
        some.read(3)
        some.say()
        some.touch(1, (0, 0, 0, 0))
        self.assertIsNone(some.close())
        self.assertIsNone(some.send(5, 0))

    def test_reading_and_saying(self):
        some = table()
        some.read(1)
        self.assertEqual((some.under(), some.heard(), some.unread()), (1, [], ALL))
        for size in (1, 2, 3):
            some.say()
            self.assertEqual((some.under(), some.heard(), some.unread()), (1, ROWS[1][:size], ALL))
        self.assertEqual(some.readings(), [])

    def test_touches_are_noted_with_the_syllables_heard(self):
        some = table()
        some.read(1)
        some.touch(1, (1, 1, 0, 1))
        some.touch(0, SWEEP)
        some.say()
        some.say()
        some.touch(1, (1, 1, 0, 1))
        self.assertEqual(some.touches(), [(1, 0, (1, 1, 0, 1)), (0, 0, SWEEP), (1, 2, (1, 1, 0, 1))])
        say_all(some)
        some.touch(0, (0, 1, 0, 0))
        self.assertEqual(some.touches()[3:], [(0, 3, (0, 1, 0, 0))])
        some.close()
        self.assertEqual((some.under(), some.heard(), some.touches()), (None, [], []))

    def test_hush(self):
        some = table()
        some.read(1)
        some.say()
        some.touch(0, SWEEP)
        some.touch(1, SWEEP)
        some.hush()
        self.assertEqual(told(some), told(table()))
        some.read(1)
        self.assertEqual((some.heard(), some.touches()), ([], []))
        say_all(some)
        some.hush()
        self.assertEqual(told(some), told(table()))

    def test_nothing_touched_before_a_hush_counts(self):
        some = table()
        some.read(1)
        some.touch(0, (1, 1, 1, 1))
        some.touch(1, SWEEP)
        some.hush()
        self.assertEqual(played(some, 1).readings(), [(1, 1, False, False)])
        self.assertEqual((some.score(), some.faults(), some.due()), ((0, 1), (0, 0), None))

    def test_send(self):
        for row, one in ((0, [[4], [1]]), (1, [[], [1, 4]])):
            some = with_gift()
            some.send(4, row)
            self.assertEqual((some.deal().rows(0), some.deal().rows(1)), ([[5, 0], []], one))
            self.assertIsNone(some.due())
            self.assertEqual((some.unread(), some.score()), ([0, 1, 3, 4, 5], (1, 0)))

    def test_waive(self):
        some = with_gift()
        some.waive()
        self.assertEqual((some.due(), some.deal().rows(0), some.deal().rows(1)), (None, ZERO, [[], [1]]))

    def test_move_within_a_row_and_to_another_one(self):
        some = wide([[1, 2, 3], [4]], [[0], []])
        for verse, row, place, rows in (
            (1, 0, 2, [[2, 3, 1], [4]]), (1, 0, 0, [[1, 2, 3], [4]]), (2, 0, 1, [[1, 2, 3], [4]]),
            (2, 1, 0, [[1, 3], [2, 4]]), (3, 1, 2, [[1], [2, 4, 3]]), (1, 1, 1, [[], [2, 1, 4, 3]]),
            (4, 0, 0, [[4], [2, 1, 3]]),
        ):
            some.move(0, verse, row, place)
            self.assertEqual((some.deal().rows(0), some.deal().rows(1)), (rows, [[0], []]))
        some.move(1, 0, 1, 0)
        self.assertEqual(some.deal().rows(1), [[], [0]])

    def test_move_within_a_full_row(self):
        some = wide([list(range(12)), [20]], [[30]])
        some.move(0, 0, 0, 11)
        self.assertEqual(some.deal().rows(0), [list(range(1, 12)) + [0], [20]])

    def test_move_while_a_gift_is_due(self):
        some = with_gift()
        some.move(0, 4, 0, 1)
        some.move(1, 1, 0, 0)
        self.assertEqual((some.deal().rows(0), some.deal().rows(1)), ([[5, 4, 0], []], [[1], []]))
        self.assertEqual(some.due(), (0, 1))

    def test_free_and_witness_by_what_was_heard(self):
        some = table()
        some.read(1)
        self.assertEqual(some.free(), [])
        some.say()
        some.say()
        self.assertEqual(some.free(), [])
        self.assertEqual(some.witness((1, 1, 0, 0)), 5)
        some.say()
        self.assertEqual(some.free(), [1])
        self.assertIsNone(some.witness((1, 1, 0, 0)))
        self.assertEqual(some.witness(SWEEP), 1)

    def test_answers_go_by_the_verses_unread_and_the_cards_now(self):
        some = played(played(table(), 5), 4)
        self.assertEqual(some.deciding(1), ["na", "ni", "wa"])
        self.assertEqual(played(some, 2).deciding(1), ["na"])
        self.assertEqual(some.plan(), [(("mu",), (0, 0, 0, 0)), (("na",), (1, 1, 0, 0))])
        some.read(0)
        some.say()
        self.assertEqual(some.free(), [0])
        some.hush()
        some.move(1, 1, 0, 0)
        self.assertEqual(some.plan()[1], (("na",), (1, 0, 0, 0)))

    def test_witness_and_deciding_refuse(self):
        for some in (table(), ended()):
            for sweep, name in LOST[:5]:
                with self.assertRaises(getattr(errors, name)):
                    some.witness(sweep)
            for number in STRANGE:
                with self.assertRaises(NoVerse):
                    some.deciding(number)
        for sweep, name in LOST[5:]:
            with self.assertRaises(getattr(errors, name)):
                table().witness(sweep)


class TestStrike(unittest.TestCase):
    def test_it_is_unread_again_and_its_card_is_gone(self):
        some = played(played(table(), 5), 3, (1, (0, 0, 0, 0)))
        self.assertEqual(some.readings(), [(5, 0, False, False), (3, None, False, True)])
        some.send(4, 0)
        some.strike(5)
        self.assertEqual((some.unread(), some.readings()), ([0, 1, 2, 4, 5], [(3, None, False, True)]))
        self.assertEqual((some.score(), some.faults(), some.due()), ((1, 0), (0, 1), None))
        self.assertEqual((some.deal().rows(0), some.deal().rows(1)), ([[0], []], [[4], [2, 1]]))
        some.strike(3)
        self.assertEqual((some.unread(), some.readings()), ([0, 1, 2, 3, 4, 5], []))
        self.assertEqual((some.score(), some.faults()), ((1, 0), (0, 1)))

    def test_read_once_more_it_comes_last(self):
        some = played(played(table(), 5), 0)
        some.strike(5)
        played(some, 5)
        self.assertEqual(some.readings(), [(0, 0, False, False), (5, None, False, False)])
        self.assertEqual(some.score(), (2, 0))

    def test_while_a_gift_is_due(self):
        some = with_gift()
        some.strike(2)
        self.assertEqual((some.due(), some.unread(), some.readings(), some.score()), ((0, 1), ALL, [], (1, 0)))
        with self.assertRaises(GiftDue):
            some.read(2)
        some.send(5, 0)
        played(some, 2)
        self.assertEqual(some.readings(), [(2, None, False, False)])


class TestRefusals(unittest.TestCase):
    """Each refusal of each deed, and which goes first where several are due."""

    def refused(self, error, some, deed, *things):
        before = told(some)
        with self.assertRaises(error, msg=(deed, things)):
            getattr(some, deed)(*things)
        self.assertEqual(told(some), before)

    def reading(self):
        some = played(table(), 5)
        some.read(0)
        return some

    def test_read(self):
        for number in STRANGE + (0, 1, 2, 3):
            self.refused(Over, ended(), "read", number)
            self.refused(GiftDue, with_gift(), "read", number)
            self.refused(Reading, self.reading(), "read", number)
        for number in STRANGE:
            self.refused(NoVerse, table(), "read", number)
        self.refused(Reading, self.reading(), "read", 5)
        self.refused(ReadAlready, played(table(), 5), "read", 5)

    def test_say(self):
        for some in (table(), with_gift(), ended(), played(table(), 5)):
            self.refused(NotDue, some, "say")
        for verse in ALL:
            some = table()
            some.read(verse)
            say_all(some)
            self.refused(AllSaid, some, "say")

    def test_touch(self):
        sweeps = [sweep for sweep, name in LOST] + [SWEEP]
        for some, side, sweep in product((table(), with_gift(), ended()), (0, 1) + NO_SIDES, sweeps):
            self.refused(NotDue, some, "touch", side, sweep)
        some = table()
        some.read(3)
        for side, sweep in product(NO_SIDES, sweeps):
            self.refused(NoSide, some, "touch", side, sweep)
        for side, (sweep, name) in product((0, 1), LOST):
            self.refused(getattr(errors, name), some, "touch", side, sweep)

    def test_close(self):
        for some in (table(), with_gift(), ended()):
            self.refused(NotDue, some, "close")
        for verse in ALL:
            some = table()
            some.read(verse)
            for size in range(len(ROWS[verse])):
                self.refused(TooEarly, some, "close")
                some.say()
            some.close()
            self.refused(NotDue, some, "close")

    def test_hush(self):
        for some in (table(), with_gift(), ended(), played(table(), 5)):
            self.refused(NotDue, some, "hush")

    def test_send(self):
        for verse, row in product((0, 4, 1, 3, -1, 6, GREAT, -GREAT), (0, 1) + ODD):
            self.refused(NotDue, table(), "send", verse, row)
            self.refused(NotDue, ended(), "send", verse, row)
        some = table()
        some.read(0)
        self.refused(NotDue, some, "send", 0, 0)
        for number, row in product(STRANGE, (0, 1, 2, -1)):
            self.refused(NoVerse, with_gift(), "send", number, row)
        # It lies on the other field, lies nowhere, was won.
        for verse, row in product((1, 3, 2), (0, 1) + ODD):
            self.refused(NoCard, with_gift(), "send", verse, row)
        for verse, row in product((0, 4, 5), ODD):
            self.refused(NoField, with_gift(), "send", verse, row)

    def test_send_to_a_full_row(self):
        some = wide([[0], [1], [2]], [list(range(12, 24)), [30, 31]])
        played(some, 30, (0, (1, 1, 0, 0)))
        self.assertEqual(some.due(), (0, 1))
        self.refused(Full, some, "send", 1, 0)
        self.refused(NoField, some, "send", 1, 2)
        self.refused(NoCard, some, "send", 31, 0)
        self.refused(NoVerse, some, "send", 40, 0)
        some.send(1, 1)
        self.assertEqual(some.deal().rows(1)[1], [31, 1])

    def test_send_by_the_side_whose_gift_is_due(self):
        some = played(table(), 0, (1, (0, 0, 1, 1)))
        self.assertEqual(some.due(), (1, 1))
        self.refused(NoCard, some, "send", 4, 0)
        some.send(1, 1)
        self.assertEqual((some.deal().rows(0), some.deal().rows(1)), ([[5], [4, 1]], [[], [2]]))

    def test_waive(self):
        some = with_gift()
        some.waive()
        for refused in (table(), ended(), some):
            self.refused(NotDue, refused, "waive")

    def test_move(self):
        verses, rows, places = (0, 1, 3, -1, 6, GREAT), (0, 1, -1, 3), (0, 1, -1, GREAT)
        over, reading, still = ended(), self.reading(), table()
        for side, verse, row, place in product((0, 1, -1, 2), verses, rows, places):
            self.refused(Over, over, "move", side, verse, row, place)
            self.refused(Reading, reading, "move", side, verse, row, place)
        for side, verse, row, place in product(NO_SIDES, verses, rows, places):
            self.refused(NoSide, still, "move", side, verse, row, place)
        for side, number, row, place in product((0, 1), STRANGE, rows, places):
            self.refused(NoVerse, still, "move", side, number, row, place)
        for (side, verse), row, place in product(((0, 1), (1, 0), (0, 3), (1, 3)), (0, 1) + ODD, places):
            self.refused(NoCard, still, "move", side, verse, row, place)
        for (side, verse), row, place in product(((0, 0), (1, 1)), ODD, places):
            self.refused(NoField, still, "move", side, verse, row, place)
        for place in (-GREAT, -2, -1, 2, 3, GREAT):
            self.refused(NoPlace, still, "move", 0, 0, 0, place)
            self.refused(NoPlace, still, "move", 0, 0, 1, place)
        self.refused(NoPlace, still, "move", 1, 1, 0, 1)

    def test_move_to_a_full_row(self):
        some = wide([list(range(12)), [20]], [[30]])
        for place in (-GREAT, -1, 0, 11, 12, 13, GREAT):
            self.refused(Full, some, "move", 0, 20, 0, place)
        for place in (-1, 12):
            self.refused(NoPlace, some, "move", 0, 0, 0, place)

    def test_strike(self):
        for number in STRANGE + (0, 1, 3):
            self.refused(Over, ended(), "strike", number)
            self.refused(Reading, self.reading(), "strike", number)
        self.refused(Reading, self.reading(), "strike", 5)
        for number in STRANGE:
            self.refused(NoVerse, table(), "strike", number)
            self.refused(NoVerse, with_gift(), "strike", number)
        for verse in ALL:
            self.refused(NotRead, table(), "strike", verse)
        some = played(table(), 5)
        some.strike(5)
        self.refused(NotRead, some, "strike", 5)


class TestEnd(unittest.TestCase):
    def test_the_side_without_cards_has_won(self):
        some = ended()
        self.assertEqual((some.winner(), some.due(), some.score()), (0, None, (1, 0)))
        other = played(Table(Deal(samples.book(), [[1, 2], []], [[0]])), 0)
        self.assertEqual((other.winner(), other.score()), (1, (0, 1)))

    def test_not_while_a_gift_is_due(self):
        # Side 1 takes the last card of field 0, so a card of field 1 is to be sent there.
        some = played(Table(Deal(samples.book(), [[0]], [[1, 2], []])), 0, (1, (0, 0, 0, 0)))
        self.assertEqual((some.deal().cards(0), some.due(), some.winner()), ([], (1, 1), None))
        some.move(1, 2, 1, 0)
        some.strike(0)
        other = some.twin()
        some.waive()
        self.assertEqual((some.winner(), some.due()), (0, None))
        other.send(1, 0)
        self.assertEqual((other.winner(), other.deal().cards(0)), (None, [1]))
        other.read(2)

    def test_the_last_card_sent_wins(self):
        some = played(Table(Deal(samples.book(), [[0]], [[1]])), 0, (1, (0, 0, 0, 0)))
        self.assertEqual((some.due(), some.winner()), ((1, 1), None))
        some.send(1, 0)
        self.assertEqual((some.winner(), some.deal().rows(0), some.deal().rows(1)), (1, [[1]], [[]]))

    def test_not_by_the_cards_that_lie_nowhere(self):
        some = played(Table(Deal(samples.book(), [[0]], [[1]])), 3)
        self.assertIsNone(some.winner())

    def test_what_is_refused_then(self):
        some = ended()
        before = told(some)
        for error, deed in ((Over, lambda: some.read(1)), (Over, lambda: some.move(1, 1, 0, 0)),
                            (Over, lambda: some.strike(0)), (NotDue, some.say), (NotDue, some.close),
                            (NotDue, some.hush), (NotDue, some.waive), (NotDue, lambda: some.send(1, 0)),
                            (NotDue, lambda: some.touch(0, (1, 0, 0, 0)))):
            with self.assertRaises(error):
                deed()
        self.assertEqual(told(some), before)


class TestTwin(unittest.TestCase):
    def states(self):
        some = table()
        yield some
        some.read(2)
        yield some
        some.say()
        some.touch(0, (1, 1, 0, 0))
        some.touch(1, SWEEP)
        yield some
        say_all(some)
        some.close()
        yield some
        some.move(0, 4, 0, 0)
        some.send(4, 0)
        yield some
        some.waive()
        some.strike(2)
        yield some
        yield ended()

    def test_it_stands_alike(self):
        for some in self.states():
            self.assertEqual(told(some.twin()), told(some))
            self.assertIsNot(some.twin(), some)

    def test_a_deed_at_one_is_not_seen_at_the_other(self):
        dice = Random(1)
        for at in range(7):
            some = next(islice(self.states(), at, None))
            twin = some.twin()
            for first, second in ((twin, some), (some.twin(), some.twin()), (some, some.twin())):
                before, seen = told(second), []
                for turn in range(60):
                    word, *things = some_deed(dice, Match(ROWS, ZERO, ONE))
                    try:
                        getattr(first, word)(*things)
                    except SnatchError:
                        pass
                    seen.append(told(first))
                    self.assertEqual(told(second), before)
                # At a match that is over there is no deed.
                self.assertEqual(any(other != before for other in seen), at != 6)


class TestWalks(unittest.TestCase):
    """Long ways of deeds, done and refused, against a match kept by the document's words."""

    def walk(self, seed, rows, zero, one, turns):
        dice = Random(seed)
        match, some = Match(rows, zero, one), Table(Deal(Book(rows), zero, one))
        seen = []
        for turn in range(turns):
            word, *things = some_deed(dice, match)
            error = match.first_refusal(word, *things)
            if error is None:
                getattr(some, word)(*things)
                match.do(word, *things)
            else:
                with self.assertRaises(error, msg=(seed, turn, word, things)):
                    getattr(some, word)(*things)
            self.assertEqual(sight(some), match.sight(), (seed, turn, word, things))
            seen.append((word, error))
            if turn in (turns // 3, turns - 1):
                self.assertEqual(told(some), match.told(), (seed, turn, word, things))
        return seen

    def test_small_matches(self):
        seen = {pair for seed in range(120) for pair in self.walk(seed, ROWS, ZERO, ONE, 120)}
        words = "read say touch close hush send waive move strike".split()
        self.assertLessEqual({(word, None) for word in words}, seen)
        self.assertLessEqual({("read", GiftDue), ("read", Over), ("move", Over), ("strike", Over)}, seen)

    def test_full_rows(self):
        zero, one = [list(range(12)), [12, 13]], [list(range(14, 26)), list(range(26, 38))]
        seen = {pair for seed in range(12) for pair in self.walk(seed, WIDE, zero, one, 150)}
        self.assertIn(("send", Full), seen)
        self.assertIn(("move", Full), seen)

    def test_witness(self):
        some = table()
        for verse in (1, 0):
            some.read(verse)
            for sweep in samples.sweeps_of(some.deal()):
                wanted = witness(some.deal(), some.unread(), some.heard(), sweep)
                self.assertEqual(some.witness(sweep) is None, wanted is None)
                if wanted is not None:
                    self.assertIn(some.witness(sweep), some.unread())
            say_all(some)
            some.close()


if __name__ == "__main__":
    unittest.main()
