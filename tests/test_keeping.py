"""Tests of promise 1: nothing handed in is changed or kept, and told lists are new ones."""

import unittest
from copy import deepcopy

from kimariji.books import Book, goings, meeting
from kimariji.errors import SnatchError
from kimariji.parts import less, minus, part, plus
from kimariji.rivals import deciding, hurdles, rivals, shared

# Tuples, so that no call can change what the lists are compared with.
VERSES = (("na", "ni", "wa"), ("na", "ni", "shi"), ("su",), ("na", "ge"))
NUMBERS = (3, 0, 2, 0, 1)

QUESTIONS = {
    "verse": lambda book, unread, heard: book.verse(0),
    "verses": lambda book, unread, heard: book.verses(),
    "meeting": meeting,
    "goings": goings,
    "rivals": lambda book, unread, heard: rivals(book, unread, 0, 1),
    "deciding": lambda book, unread, heard: deciding(book, unread, 0),
    "hurdles": lambda book, unread, heard: hurdles(book, unread, 0),
}


def rows():
    return [list(verse) for verse in VERSES]


def unread():
    return list(NUMBERS)


def spoil(told):
    """Change a list, and each list in it, as far as it can be."""
    for inner in told:
        if isinstance(inner, list):
            spoil(inner)
    told.reverse()
    told.append("spoilt")
    del told[0]


class TestHandedIn(unittest.TestCase):
    def test_rows_are_the_same_behind_the_making_of_a_book(self):
        refused = ([], [["a"], []], [["a"], ["B"]], [["b"], ["a"], ["a", "b"]], [["a"]] * 41)
        for wanted in (rows(), *refused):
            handed = deepcopy(wanted)
            try:
                Book(handed)
            except SnatchError:
                pass
            self.assertEqual(handed, wanted)

    def test_lists_are_the_same_behind_a_question(self):
        for name, ask in QUESTIONS.items():
            for numbers in (NUMBERS, (3, 4, 0), (0, -1), ()):
                for heard in ((), ("na",), ("x",)):
                    handed, listened = list(numbers), list(heard)
                    try:
                        ask(Book(rows()), handed, listened)
                    except SnatchError:
                        pass
                    self.assertEqual((tuple(handed), tuple(listened)), (numbers, heard), name)

    def test_changing_the_rows_behind_the_making_changes_no_book(self):
        handed = rows()
        book = Book(handed)
        spoil(handed)
        self.assertEqual(book.verses(), rows())
        self.assertEqual(book.many(), 4)
        self.assertEqual(book.verse(0), list(VERSES[0]))
        self.assertEqual(meeting(book, unread(), ["na", "ni"]), [0, 1])

    def test_one_row_may_be_handed_in_to_two_books(self):
        row = ["a", "b"]
        first = Book([row])
        row[0] = "c"
        second = Book([row])
        self.assertEqual((first.verses(), second.verses()), ([["a", "b"]], [["c", "b"]]))

    def test_changing_lists_behind_a_question_changes_no_later_answer(self):
        for name, ask in QUESTIONS.items():
            book = Book(rows())
            handed, listened = unread(), ["na"]
            told = ask(book, handed, listened)
            kept = deepcopy(told)
            handed.clear()
            listened.append("x")
            self.assertEqual(told, kept, name)
            self.assertEqual(ask(book, unread(), ["na"]), kept, name)

    def test_told_lists_are_not_those_handed_in(self):
        book = Book(rows())
        numbers = [0, 1, 2, 3]
        self.assertIsNot(meeting(book, numbers, []), numbers)


class TestTold(unittest.TestCase):
    def test_changing_a_told_list_changes_no_later_answer(self):
        book = Book(rows())
        for name, ask in QUESTIONS.items():
            wanted = deepcopy(ask(book, unread(), ["na"]))
            spoil(ask(book, unread(), ["na"]))
            self.assertEqual(ask(book, unread(), ["na"]), wanted, name)
        self.assertEqual(book.verses(), rows())
        self.assertEqual([shared(book, 0, number) for number in range(4)], [3, 2, 0, 1])

    def test_lists_in_one_answer_are_not_one_list(self):
        book = Book([["a", "b", "c"], ["a", "b", "d"]])
        told = hurdles(book, [0, 1], 0)
        self.assertEqual(told, [[1], [1], [1]])
        told[0].append(7)
        self.assertEqual(told, [[1, 7], [1], [1]])


class TestBeside(unittest.TestCase):
    def test_answers_hang_on_what_is_handed_in_alone(self):
        book, other = Book(rows()), Book([["na", "x"], ["na", "y"]])
        first = [ask(book, unread(), ["na"]) for ask in QUESTIONS.values()]
        for ask in QUESTIONS.values():
            ask(book, [2], [])
            ask(book, [0, 1], ["su"])
            ask(other, [1, 0], ["na"])
        self.assertEqual([ask(book, unread(), ["na"]) for ask in QUESTIONS.values()], first)

    def test_a_refused_question_changes_nothing(self):
        book = Book(rows())
        before = [ask(book, unread(), ["na"]) for ask in QUESTIONS.values()]
        for ask in list(QUESTIONS.values())[2:]:
            with self.assertRaises(SnatchError):
                ask(book, [0, 9], ["na"])
        with self.assertRaises(SnatchError):
            book.verse(-1)
        self.assertEqual([ask(book, unread(), ["na"]) for ask in QUESTIONS.values()], before)

    def test_a_refused_part_changes_nothing(self):
        for reckon in (part, plus, minus, less):
            with self.assertRaises(SnatchError):
                reckon(*((1, 0) if reckon == part else ((1, 2), (1, 0))))
        self.assertEqual((part(2, 4), plus((1, 2), (1, 2)), minus((1, 2), (1, 2))), ((1, 2), (1, 1), (0, 1)))


if __name__ == "__main__":
    unittest.main()
