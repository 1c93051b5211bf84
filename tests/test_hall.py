"""Tests of kimariji.hall: promises 18 and 19, what a hall tells, and its twin."""

import unittest
from copy import deepcopy
from itertools import product
from random import Random

import match
import samples
from halls import BAD_NAMES, NAMES, TINY, Place, some_hall_deed, told, tried, walked
from samples import GREAT, LOST, ONE, ROWS, STRANGE, ZERO

from kimariji import errors
from kimariji.books import Book
from kimariji.errors import (
    AllSaid, Alike, BadBook, BadDeal, BadName, BadVerse, Full, GiftDue, NoBook, NoCard, NoField, NoPlace, NoSide,
    NoTable, NotDue, NothingLeft, NotRead, NoVerse, Over, ReadAlready, Reading, Taken, TooEarly,
)
from kimariji.hall import Hall
from kimariji.table import Table

EIGHT = ["a", "b", "c", "d", "e", "f", "g", "h"]
SWEEP = (0, 0, 0, 1)
# Each word of a table's deeds, with things that are good or bad of every kind.
AT_TABLES = [
    ("read", 0), ("read", -1), ("say",), ("touch", 0, SWEEP), ("touch", 2, (9, 9, 9, 9)), ("close",), ("hush",),
    ("send", 0, 0), ("send", -1, -1), ("waive",), ("move", 0, 0, 0, 0), ("move", 9, 9, 9, 9), ("strike", 0),
    ("strike", GREAT), ("fold",),
]


def hall():
    """A hall with two books and a table."""
    some = Hall()
    some.shelve("poems", ROWS)
    some.shelve("tiny", TINY)
    some.lay("first", "poems", ZERO, ONE)
    return some


def nothing():
    return ([], [], [])


class TestAtFirst(unittest.TestCase):
    def test_there_is_nothing(self):
        some = Hall()
        self.assertEqual((some.books(), some.tables(), some.deeds()), ([], [], []))
        for deed in (some.back, some.again):
            with self.assertRaises(NothingLeft):
                deed()
        for name in NAMES + BAD_NAMES:
            with self.assertRaises(NoBook):
                some.book(name)
            with self.assertRaises(NoTable):
                some.table(name)

    def test_halls_stand_apart(self):
        one, other = hall(), Hall()
        self.assertEqual(told(other), nothing())
        other.shelve("a", TINY)
        self.assertEqual((one.books(), other.books()), (["poems", "tiny"], ["a"]))

    def test_kinds_of_values(self):
        some = hall()
        self.assertEqual({type(told) for told in (some.books(), some.tables(), some.deeds())}, {list})
        self.assertEqual({type(deed) for deed in some.deeds()}, {tuple})
        self.assertEqual([type(thing) for thing in some.deeds()[2]], [str, str, str, list, list])
        self.assertEqual({type(row) for row in some.deeds()[0][2] + some.deeds()[2][3]}, {list})
        self.assertEqual((type(some.book("tiny")), type(some.table("first"))), (Book, Table))


class Refusing(unittest.TestCase):
    def refused(self, error, some, word, *things):
        before = told(some)
        with self.assertRaises(error, msg=(word, things)) as caught:
            getattr(some, word)(*things)
        self.assertEqual(told(some), before)
        return caught.exception


class TestShelve(Refusing):
    def test_new_books(self):
        some = hall()
        self.assertEqual(some.books(), ["poems", "tiny"])
        self.assertEqual((some.book("poems").verses(), some.book("tiny").verses()), (ROWS, TINY))
        self.assertIsNone(some.shelve("abcdefgh", TINY))
        self.assertEqual(some.books(), ["poems", "tiny", "abcdefgh"])
        some.shelve("z", [["z"]])
        self.assertEqual(some.books(), ["poems", "tiny", "abcdefgh", "z"])

    def test_bad_name_goes_first(self):
        for name, verses in product(BAD_NAMES, (TINY, [], [["A"]], [["a"], ["a"]])):
            self.refused(BadName, hall(), "shelve", name, verses)
            self.refused(BadName, self.full(), "shelve", name, verses)

    def full(self):
        some = Hall()
        for name in EIGHT:
            some.shelve(name, TINY)
        return some

    def test_taken_goes_ahead_of_full_and_of_a_bad_book(self):
        for verses in (TINY, [], [["A"]], [["a"], ["a"]]):
            self.refused(Taken, hall(), "shelve", "poems", verses)
            for name in EIGHT:
                self.refused(Taken, self.full(), "shelve", name, verses)

    def test_eight_and_a_ninth(self):
        some = self.full()
        self.assertEqual(some.books(), EIGHT)
        for verses in (TINY, [], [["A"]], [["a"], ["a"]]):
            self.refused(Full, some, "shelve", "i", verses)
        some.back()
        some.shelve("i", TINY)
        self.assertEqual(some.books(), EIGHT[:7] + ["i"])

    def test_no_book_of_point_3(self):
        some = hall()
        self.refused(BadBook, some, "shelve", "new", [])
        self.refused(BadBook, some, "shelve", "new", [["A"]] * 41)
        self.assertEqual(self.refused(BadVerse, some, "shelve", "new", [["a"], ["a"], ["B"], []]).row, 2)
        caught = self.refused(Alike, some, "shelve", "new", [["x"], ["a"], ["a", "b"]])
        self.assertEqual((caught.one, caught.other), (1, 2))

    def test_a_table_may_have_its_name(self):
        some = hall()
        some.shelve("first", TINY)
        some.lay("poems", "first", [[0]], [[1]])
        self.assertEqual((some.books(), some.tables()), (["poems", "tiny", "first"], ["first", "poems"]))
        self.assertEqual(some.table("poems").deal().book().verses(), TINY)


class TestLay(Refusing):
    def full(self):
        some = hall()
        for name in EIGHT[1:]:
            some.lay(name, "tiny", [[0]], [[1]])
        return some

    def test_new_tables(self):
        some = hall()
        self.assertEqual(some.tables(), ["first"])
        self.assertEqual(match.told(some.table("first")), match.Match(ROWS, ZERO, ONE).told())
        self.assertIsNone(some.lay("abcdefgh", "tiny", [[0, 2]], [[], [1]]))
        self.assertEqual(some.tables(), ["first", "abcdefgh"])
        self.assertEqual(some.table("abcdefgh").deal().rows(1), [[], [1]])

    def test_two_tables_of_one_book(self):
        some = hall()
        some.lay("other", "poems", ZERO, ONE)
        some.read("other", 2)
        self.assertEqual((some.table("first").under(), some.table("other").under()), (None, 2))

    def test_bad_name_goes_first(self):
        for name, book, zero in product(BAD_NAMES, ("poems", "none", ""), (ZERO, [], [[]])):
            self.refused(BadName, hall(), "lay", name, book, zero, ONE)
        for name in BAD_NAMES:
            self.refused(BadName, self.full(), "lay", name, "", [], [])

    def test_taken_goes_ahead_of_the_others(self):
        for book, zero in product(("poems", "none", "A"), (ZERO, [], [[]])):
            self.refused(Taken, hall(), "lay", "first", book, zero, ONE)
            self.refused(Taken, self.full(), "lay", "h", book, zero, ONE)

    def test_eight_and_a_ninth(self):
        some = self.full()
        self.assertEqual(len(some.tables()), 8)
        for book, zero in product(("poems", "none", "A"), (ZERO, [], [[]])):
            self.refused(Full, some, "lay", "i", book, zero, ONE)
        some.fold("d")
        some.lay("i", "tiny", [[0]], [[1]])
        self.assertEqual(some.tables(), ["first", "b", "c", "e", "f", "g", "h", "i"])

    def test_no_book_goes_ahead_of_bad_deal(self):
        for book, zero in product(["none", "first"] + BAD_NAMES, (ZERO, [], [[]], [[99]])):
            self.refused(NoBook, hall(), "lay", "new", book, zero, ONE)

    def test_bad_deal(self):
        bad = (([], [[1]]), ([[0]], []), ([[0]], [[0]]), ([[0, 0]], [[1]]), ([[3]], [[1]]), ([[-1]], [[1]]),
               ([[0], [], [], []], [[1]]), ([[]], [[0]]), ([[0]], [[], []]), ([[]], [[]]), ([list(range(13))], [[1]]))
        for zero, one in bad:
            self.refused(BadDeal, hall(), "lay", "new", "tiny", zero, one)

    def test_eight_books_leave_room_for_tables(self):
        some = hall()
        for name in EIGHT[:6]:
            some.shelve(name, TINY)
        some.lay("second", "a", [[0]], [[1]])
        self.assertEqual((len(some.books()), some.tables()), (8, ["first", "second"]))


class TestAtTables(Refusing):
    def test_no_table_goes_first(self):
        for name in ["none", "poems", "firs", "firstt"] + BAD_NAMES:
            for word, *things in AT_TABLES:
                self.refused(NoTable, hall(), word, name, *things)

    def test_a_match_from_its_beginning_to_its_end(self):
        some, table = hall(), Table(samples.deal())
        deeds = [("move", 0, 4, 0, 0), ("read", 1), ("touch", 0, (1, 1, 0, 1)), ("say",), ("touch", 1, SWEEP),
                 ("hush",), ("read", 1), ("touch", 0, (1, 1, 1, 1)), ("touch", 1, SWEEP), ("say",), ("say",), ("say",),
                 ("close",), ("send", 5, 0), ("strike", 1), ("waive",), ("read", 2), ("say",), ("say",), ("say",),
                 ("close",), ("read", 5), ("say",), ("say",), ("say",), ("close",)]
        for word, *things in deeds:
            self.assertIsNone(getattr(some, word)("first", *things))
            getattr(table, word)(*things)
            self.assertEqual(match.told(some.table("first")), match.told(table))
        self.assertEqual(table.winner(), 1)
        self.assertEqual(some.deeds()[3:], [(word, "first", *things) for word, *things in deeds])
        for word, *things in (("read", 3), ("move", 0, 4, 0, 0), ("strike", 2)):
            self.refused(Over, some, word, "first", *things)
        self.assertIsNone(some.fold("first"))

    def test_the_refusals_of_a_table(self):
        some = hall()
        for error, word, *things in (
            (NotDue, "say"), (NotDue, "close"), (NotDue, "hush"), (NotDue, "waive"), (NotDue, "send", -1, -1),
            (NotDue, "touch", 5, (9, 9, 9, 9)), (NoVerse, "read", 6), (NoVerse, "strike", -1), (NotRead, "strike", 0),
            (NoSide, "move", 2, -1, -1, -1), (NoVerse, "move", 0, -1, 9, 9), (NoCard, "move", 0, 1, 9, 9),
            (NoField, "move", 0, 0, 2, 9), (NoPlace, "move", 0, 0, 0, 2),
        ):
            self.refused(error, some, word, "first", *things)
        some.read("first", 2)
        for error, word, *things in ((Reading, "read", -1), (TooEarly, "close"), (NoSide, "touch", 2, (9, 9, 9, 9)),
                                     (Reading, "move", 9, 9, 9, 9), (Reading, "strike", 9)):
            self.refused(error, some, word, "first", *things)
        for sweep, name in LOST:
            self.refused(getattr(errors, name), some, "touch", "first", 0, sweep)
        some.touch("first", 0, (1, 1, 0, 0))
        for syllable in ROWS[2]:
            some.say("first")
        self.refused(AllSaid, some, "say", "first")
        some.close("first")
        for error, word, *things in ((GiftDue, "read", -1), (NoVerse, "send", 6, 9), (NoCard, "send", 1, 9),
                                     (NoField, "send", 0, 9)):
            self.refused(error, some, word, "first", *things)
        some.waive("first")
        self.refused(ReadAlready, some, "read", "first", 2)

    def test_a_full_row(self):
        some = Hall()
        some.shelve("wide", [["a" + letter] for letter in "abcdefghijklmnopqrs"])
        some.lay("t", "wide", [list(range(12)), [12]], [[13, 14]])
        self.refused(Full, some, "move", "t", 0, 12, 0, 99)
        some.read("t", 14)
        some.touch("t", 0, SWEEP)
        some.say("t")
        some.close("t")
        self.refused(Full, some, "send", "t", 13, 0)
        some.send("t", 13, 1)

    def test_a_deed_at_a_told_table_is_not_seen_in_the_hall(self):
        some = hall()
        table = some.table("first")
        table.read(0)
        table.say()
        table.touch(0, SWEEP)
        self.assertEqual(match.told(some.table("first")), match.told(Table(samples.deal())))
        some.read("first", 2)
        self.assertEqual((table.under(), some.table("first").under()), (0, 2))
        self.assertEqual(len(some.deeds()), 4)

    def test_told_tables_stand_apart(self):
        some = hall()
        one, other = some.table("first"), some.table("first")
        one.read(0)
        self.assertIsNone(other.under())


class TestFold(Refusing):
    def test_the_table_is_gone(self):
        some = hall()
        some.fold("first")
        self.assertEqual((some.tables(), some.books()), ([], ["poems", "tiny"]))
        with self.assertRaises(NoTable):
            some.table("first")
        self.refused(NoTable, some, "fold", "first")
        self.refused(NoTable, some, "read", "first", 0)

    def test_laid_anew_it_comes_last_and_begins_anew(self):
        some = hall()
        some.lay("second", "tiny", [[0]], [[1]])
        some.read("first", 0)
        some.fold("first")
        self.assertEqual(some.tables(), ["second"])
        some.lay("first", "tiny", [[2]], [[1]])
        self.assertEqual(some.tables(), ["second", "first"])
        self.assertEqual((some.table("first").under(), some.table("first").deal().rows(0)), (None, [[2]]))

    def test_taken_back_it_stands_where_it_stood(self):
        some = hall()
        some.lay("second", "tiny", [[0]], [[1]])
        some.read("first", 0)
        some.fold("first")
        some.lay("first", "tiny", [[2]], [[1]])
        some.back()
        some.back()
        self.assertEqual((some.tables(), some.table("first").under()), (["first", "second"], 0))
        some.again()
        some.again()
        self.assertEqual(some.tables(), ["second", "first"])

    def test_order_is_not_changed_by_other_deeds(self):
        some = hall()
        some.lay("second", "tiny", [[0]], [[1]])
        some.read("second", 0)
        some.read("first", 0)
        self.assertEqual(some.tables(), ["first", "second"])


class TestBackAndAgain(Refusing):
    def deeds(self):
        return [("shelve", "poems", ROWS), ("shelve", "tiny", TINY), ("lay", "first", "poems", ZERO, ONE),
                ("lay", "second", "tiny", [[0, 2]], [[1]]), ("move", "second", 0, 0, 0, 1), ("read", "first", 1),
                ("touch", "first", 0, (1, 1, 1, 1)), ("say", "first"), ("read", "second", 2), ("say", "first"),
                ("say", "first"), ("close", "first"), ("send", "first", 5, 0), ("strike", "first", 1),
                ("hush", "second"), ("fold", "second"), ("lay", "second", "poems", [[0]], [[1]]), ("fold", "first")]

    def test_one_by_one_to_both_ends(self):
        some, stands = Hall(), [told(Hall())]
        for word, *things in self.deeds():
            getattr(some, word)(*things)
            stands.append(told(some))
        self.assertEqual([len(stand[2]) for stand in stands], list(range(19)))
        for turn in range(2):
            for stand in stands[-2::-1]:
                self.assertIsNone(some.back())
                self.assertEqual(told(some), stand)
            self.refused(NothingLeft, some, "back")
            for stand in stands[1:]:
                self.assertIsNone(some.again())
                self.assertEqual(told(some), stand)
            self.refused(NothingLeft, some, "again")

    def test_behind_a_refused_deed(self):
        some = hall()
        before = told(some)
        some.back()
        some.back()
        for word, *things in (("shelve", "poems", TINY), ("shelve", "A", TINY), ("lay", "t", "none", [[0]], [[1]]),
                              ("lay", "t", "poems", [], []), ("read", "none", 0), ("fold", "none"),
                              ("shelve", "x", [])):
            self.assertIsNotNone(tried(some, word, *things))
        some.again()
        some.again()
        self.assertEqual(told(some), before)
        self.refused(NothingLeft, some, "again")

    def test_a_refused_deed_is_not_taken_back(self):
        some = hall()
        self.refused(NoVerse, some, "read", "first", 6)
        some.back()
        self.assertEqual(some.tables(), [])

    def test_behind_a_refused_back_and_again(self):
        some = hall()
        self.refused(NothingLeft, some, "again")
        for turn in range(3):
            some.back()
        self.refused(NothingLeft, some, "back")
        self.refused(NothingLeft, some, "back")
        for turn in range(3):
            some.again()
        self.refused(NothingLeft, some, "again")
        self.assertEqual(told(some), told(hall()))

    def test_behind_another_deed(self):
        some = hall()
        some.back()
        some.back()
        some.shelve("other", TINY)
        self.refused(NothingLeft, some, "again")
        self.assertEqual(some.books(), ["poems", "other"])
        some.back()
        self.assertEqual(some.books(), ["poems"])
        some.again()
        self.assertEqual(some.books(), ["poems", "other"])
        self.refused(NothingLeft, some, "again")

    def test_the_same_deed_is_another_deed_too(self):
        some = hall()
        some.read("first", 0)
        some.say("first")
        some.back()
        some.back()
        some.read("first", 0)
        self.refused(NothingLeft, some, "again")

    def test_to_do_one_again_is_not_another_deed(self):
        some = hall()
        some.back()
        some.back()
        some.again()
        some.again()
        self.assertEqual(told(some), told(hall()))

    def test_a_deed_behind_some_done_again(self):
        some = hall()
        for turn in range(3):
            some.back()
        some.again()
        some.shelve("new", TINY)
        self.assertEqual([deed[:2] for deed in some.deeds()], [("shelve", "poems"), ("shelve", "new")])
        self.refused(NothingLeft, some, "again")


class TestDeeds(unittest.TestCase):
    def test_the_eldest_first(self):
        some = hall()
        some.read("first", 0)
        some.touch("first", 1, SWEEP)
        some.hush("first")
        wanted = [("shelve", "poems", ROWS), ("shelve", "tiny", TINY), ("lay", "first", "poems", ZERO, ONE),
                  ("read", "first", 0), ("touch", "first", 1, SWEEP), ("hush", "first")]
        self.assertEqual(some.deeds(), wanted)
        for many in range(5, -1, -1):
            some.back()
            self.assertEqual(some.deeds(), wanted[:many])

    def test_done_in_another_hall_it_stands_alike(self):
        for seed in range(20):
            some = walked(Random(seed), 80)[0]
            other = Hall()
            for word, *things in some.deeds():
                getattr(other, word)(*things)
            self.assertEqual(told(other), told(some))


class TestTwin(unittest.TestCase):
    def test_it_stands_alike_what_can_be_taken_back_and_done_again_too(self):
        some = hall()
        some.read("first", 0)
        some.back()
        some.back()
        other = some.twin()
        self.assertIsNot(other, some)
        for moves in (["again"] * 2, ["back"] * 4, ["again"] * 4):
            for move in moves:
                getattr(some, move)()
                getattr(other, move)()
                self.assertEqual(told(other), told(some))
        for move in ("again",):
            self.assertEqual((tried(some, move), tried(other, move)), (NothingLeft, NothingLeft))

    def test_a_deed_in_one_is_not_seen_in_the_other(self):
        for done_first in (True, False):
            some = hall()
            some.read("first", 0)
            behind = told(some)
            some.back()
            twin = some.twin()
            one, other = (some, twin) if done_first else (twin, some)
            before = told(other)
            one.again()
            one.say("first")
            self.assertEqual(told(other), before)
            one.fold("first")
            one.shelve("more", TINY)
            for turn in range(7):
                one.back()
            self.assertEqual(told(other), before)
            one.shelve("more", TINY)
            other.again()
            self.assertEqual(told(other), behind)
            for turn in range(4):
                other.back()
            self.assertEqual(told(other), nothing())
            self.assertEqual(one.books(), ["more"])


class TestWalks(unittest.TestCase):
    """Long ways of deeds, done and refused, taken back and done again, against the document's words."""

    def step(self, dice, some, place):
        """One deed; its word, and its refusal or None."""
        chance = dice.random()
        if chance < 0.1:
            word = dice.choice(("back", "back", "again"))
            wanted = None if (place.past if word == "back" else place.future) else NothingLeft
            self.assertEqual(tried(some, word), wanted)
            if wanted is None:
                getattr(place, word)()
            return (word, wanted)
        word, name, *things = some_hall_deed(dice, place)
        wanted = place.refusal(word, name, *things)
        self.assertEqual(tried(some, word, name, *deepcopy(things)), wanted, (word, name, things))
        if wanted is None:
            place.do(word, name, *things)
        return (word, wanted)

    def test_walks(self):
        seen = set()
        for seed in range(60):
            dice, some, place = Random(seed), Hall(), Place()
            for turn in range(250):
                seen.add(self.step(dice, some, place))
                self.assertEqual(told(some), place.told(), (seed, turn))
        words = "shelve lay read say touch close hush send waive move strike fold back again".split()
        self.assertLessEqual({(word, None) for word in words}, seen)
        self.assertLessEqual({("back", NothingLeft), ("again", NothingLeft)}, seen)

    def test_strange_numbers_of_verses(self):
        some = hall()
        before = told(some)
        for number in STRANGE:
            self.assertEqual(tried(some, "read", "first", number), NoVerse)
            self.assertEqual(tried(some, "strike", "first", number), NoVerse)
        self.assertEqual(told(some), before)


if __name__ == "__main__":
    unittest.main()
