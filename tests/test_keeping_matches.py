"""Tests of promise 1 for chances, tables, halls and texts: nothing is changed or kept, told lists are new ones."""

import unittest
from copy import deepcopy

import halls
import match
import samples
from halls import TINY
from samples import ALL, ONE, ROWS, ZERO

from kimariji.books import Book
from kimariji.chances import best_gift, decided_by, mean_decided, mean_safe, safe_by, waiting
from kimariji.deals import Deal
from kimariji.errors import SnatchError
from kimariji.hall import Hall
from kimariji.minutes import book_text, hall_text, read_book, read_hall
from kimariji.table import Table

UNREAD = (5, 0, 4, 0, 2, 1)
SWEEP = (1, 1, 1, 1)

# Each is asked with a deal and unread verses.
CHANCES = {
    "decided_by": lambda deal, unread: decided_by(deal.book(), unread, 1, 1),
    "mean_decided": lambda deal, unread: mean_decided(deal.book(), unread, 1),
    "safe_by": lambda deal, unread: safe_by(deal, unread, 1, 1),
    "mean_safe": lambda deal, unread: mean_safe(deal, unread, 1),
    "waiting": waiting,
    "best_gift": lambda deal, unread: best_gift(deal, unread, 0),
    "best_gift of a strange field": lambda deal, unread: best_gift(deal, unread, 2),
}
# What a table tells as lists, or with lists in it.
TABLE_LISTS = {
    "rows": lambda table: table.deal().rows(0),
    "unread": lambda table: table.unread(),
    "heard": lambda table: table.heard(),
    "touches": lambda table: table.touches(),
    "readings": lambda table: table.readings(),
    "free": lambda table: table.free(),
    "deciding": lambda table: table.deciding(1),
    "plan": lambda table: table.plan(),
}
HALL_LISTS = {
    "deeds": lambda hall: hall.deeds(),
    "books": lambda hall: hall.books(),
    "tables": lambda hall: hall.tables(),
    "verses": lambda hall: hall.book("poems").verses(),
    "rows": lambda hall: hall.table("first").deal().rows(0),
    "unread": lambda hall: hall.table("first").unread(),
    "touches": lambda hall: hall.table("first").touches(),
}


def spoil(told):
    """Change each list in an answer as far as it can be."""
    if isinstance(told, (list, tuple)):
        for inner in told:
            spoil(inner)
    if isinstance(told, list):
        told.reverse()
        told.append("spoilt")
        del told[0]


def standing(deal):
    return (deal.book().verses(), deal.rows(0), deal.rows(1))


def table():
    """A table with a closed reading, in the midst of another one."""
    some = Table(samples.deal())
    some.read(5)
    for syllable in ROWS[5]:
        some.say()
    some.close()
    some.read(1)
    some.say()
    some.touch(0, SWEEP)
    return some


def hall():
    some = Hall()
    some.shelve("poems", deepcopy(ROWS))
    some.shelve("tiny", deepcopy(TINY))
    some.lay("first", "poems", deepcopy(ZERO), deepcopy(ONE))
    some.read("first", 1)
    some.touch("first", 0, SWEEP)
    return some


class TestChances(unittest.TestCase):
    def test_lists_are_the_same_behind_a_question(self):
        for name, ask in CHANCES.items():
            for wanted in (list(UNREAD), [0, 9], [], [1, -1], [3, 2]):
                deal, handed = samples.deal(), list(wanted)
                try:
                    ask(deal, handed)
                except SnatchError:
                    pass
                self.assertEqual(handed, wanted, name)
                self.assertEqual(standing(deal), (ROWS, ZERO, ONE), name)

    def test_answers_hang_on_what_is_handed_in_alone(self):
        deal, handed = samples.deal(), list(UNREAD)
        other = Deal(deal.book(), [[1], [2, 5]], [[], [0, 4, 3]])
        questions = list(CHANCES.values())[:6]
        first = [ask(deal, handed) for ask in questions]
        handed.clear()
        for ask in CHANCES.values():
            for some, unread in ((deal, [1]), (other, ALL), (deal, [1, 9]), (deal, []), (other, [1, 0])):
                try:
                    ask(some, unread)
                except SnatchError:
                    pass
        self.assertEqual([ask(deal, list(UNREAD)) for ask in questions], first)
        self.assertEqual([ask(samples.deal(), list(UNREAD)) for ask in questions], first)


class TestTables(unittest.TestCase):
    def test_changing_a_told_list_changes_no_later_answer(self):
        some = table()
        before = match.told(some)
        for name, ask in TABLE_LISTS.items():
            spoil(ask(some))
            self.assertEqual(match.told(some), before, name)

    def test_changing_a_told_list_changes_no_twin(self):
        some = table()
        other = some.twin()
        before = match.told(other)
        for name, ask in TABLE_LISTS.items():
            spoil(ask(some))
            self.assertEqual(match.told(other), before, name)

    def test_told_lists_are_not_changed_by_later_deeds(self):
        some = table()
        told = {name: ask(some) for name, ask in TABLE_LISTS.items()}
        kept = deepcopy(told)
        some.touch(1, SWEEP)
        some.say()
        some.say()
        some.close()
        some.send(0, 0)
        some.strike(5)
        self.assertEqual(told, kept)

    def test_a_told_deal_is_not_changed_by_later_deeds(self):
        some = Table(samples.deal())
        deal = some.deal()
        some.move(0, 4, 0, 0)
        some.read(0)
        some.say()
        some.say()
        some.close()
        self.assertEqual((standing(deal), some.deal().rows(0)), ((ROWS, ZERO, ONE), [[4, 5], []]))

    def test_the_deal_that_was_handed_in_is_not_changed(self):
        deal = samples.deal()
        one, other = Table(deal), Table(deal)
        one.move(0, 4, 0, 0)
        self.assertEqual((standing(deal), other.deal().rows(0)), ((ROWS, ZERO, ONE), ZERO))

    def test_refused_it_changes_nothing(self):
        deal = Deal(samples.book(), [[]], [[0], [1]])
        with self.assertRaises(SnatchError):
            Table(deal)
        self.assertEqual(standing(deal), (ROWS, [[]], [[0], [1]]))


class TestHalls(unittest.TestCase):
    def test_lists_are_the_same_behind_a_deed(self):
        asked = [
            ("shelve", "new", TINY), ("shelve", "poems", TINY), ("shelve", "A", TINY), ("shelve", "new", []),
            ("shelve", "new", [["a"], ["B"]]), ("shelve", "new", [["a"], ["a", "b"]]),
            ("lay", "new", "poems", ZERO, ONE), ("lay", "first", "poems", ZERO, ONE), ("lay", "new", "none", ZERO, ONE),
            ("lay", "new", "tiny", ZERO, ONE), ("lay", "new", "poems", [[]], [[0]]), ("lay", "new", "poems", [], [[0]]),
        ]
        for deed in asked:
            handed = deepcopy(deed)
            halls.tried(hall(), *handed)
            self.assertEqual(handed, deed)

    def test_changing_lists_behind_a_deed_changes_nothing(self):
        some, verses, zero, one = Hall(), deepcopy(ROWS), deepcopy(ZERO), deepcopy(ONE)
        some.shelve("poems", verses)
        some.lay("first", "poems", zero, one)
        before, text = halls.told(some), hall_text(some)
        for handed in (verses, zero, one):
            spoil(handed)
        self.assertEqual((halls.told(some), hall_text(some)), (before, text))
        some.back()
        some.back()
        some.again()
        some.again()
        self.assertEqual((halls.told(some), hall_text(some)), (before, text))
        self.assertEqual(some.deeds(), [("shelve", "poems", ROWS), ("lay", "first", "poems", ZERO, ONE)])

    def test_one_list_may_be_handed_in_to_two_deeds(self):
        some, rows = Hall(), [["a"], ["b"]]
        some.shelve("one", rows)
        rows[0][0] = "c"
        some.shelve("two", rows)
        self.assertEqual((some.book("one").verses(), some.book("two").verses()), ([["a"], ["b"]], [["c"], ["b"]]))

    def test_changing_a_told_list_changes_no_later_answer(self):
        some = hall()
        other = some.twin()
        before, text = halls.told(some), hall_text(some)
        for name, ask in HALL_LISTS.items():
            spoil(ask(some))
            self.assertEqual((halls.told(some), hall_text(some)), (before, text), name)
            self.assertEqual((halls.told(other), hall_text(other)), (before, text), name)

    def test_changing_told_deeds_changes_nothing_done_again(self):
        some = hall()
        before = halls.told(some)
        spoil(some.deeds())
        for turn in range(5):
            some.back()
            spoil(some.deeds())
        for turn in range(5):
            some.again()
            spoil(some.deeds())
        self.assertEqual(halls.told(some), before)

    def test_told_lists_are_not_changed_by_later_deeds(self):
        some = hall()
        told = {name: ask(some) for name, ask in HALL_LISTS.items()}
        kept = deepcopy(told)
        some.touch("first", 1, SWEEP)
        some.shelve("more", deepcopy(TINY))
        some.hush("first")
        some.move("first", 0, 4, 0, 0)
        some.fold("first")
        some.back()
        self.assertEqual(told, kept)

    def test_a_told_table_and_a_twin_stand_on_their_own(self):
        some = hall()
        told, twin = some.table("first"), some.twin()
        seen, before = match.told(told), halls.told(twin)
        some.say("first")
        some.fold("first")
        some.back()
        some.back()
        self.assertEqual((match.told(told), halls.told(twin)), (seen, before))
        told.hush()
        twin.fold("first")
        self.assertEqual((halls.told(some), some.table("first").under()), (before, 1))


class TestTexts(unittest.TestCase):
    def test_what_is_written_is_not_changed(self):
        book, some = Book(ROWS), hall()
        before = halls.told(some)
        text = book_text(book)
        self.assertEqual((book.verses(), book_text(book), halls.told(some)), (ROWS, text, before))

    def test_a_refused_text_changes_no_later_answer(self):
        text = hall_text(hall())
        for wrong in (text + "\n", text + "\nread first 0", "", "hall\nshelve a a;a"):
            with self.assertRaises(SnatchError):
                read_hall(wrong)
            with self.assertRaises(SnatchError):
                read_book(wrong)
            self.assertEqual(halls.told(read_hall(text)), halls.told(hall()))
        self.assertEqual(read_book(book_text(Book(ROWS))).verses(), ROWS)


if __name__ == "__main__":
    unittest.main()
