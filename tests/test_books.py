"""Tests of kimariji.books: promises 3 and 4, and NoVerse of its questions."""

import unittest
from itertools import combinations

from kimariji.books import Book, goings, meeting
from kimariji.errors import Alike, BadBook, BadVerse, NoVerse

ROWS = [
    ["mu", "ra"],
    ["na", "ni", "wa", "no"],
    ["na", "ni", "shi"],
    ["su"],
    ["na", "ge"],
    ["mu", "ka", "shi"],
]
STRANGE = (-1, -6, -7, 6, 7, -(10 ** 30), 10 ** 30, 10 ** 5000, -(10 ** 5000))
LETTERS = "abcdefghijklmnopqrstuvwxyz"


def many_rows(many):
    return [[LETTERS[number // 26] + LETTERS[number % 26]] for number in range(many)]


class TestBook(unittest.TestCase):
    def test_answers(self):
        book = Book(ROWS)
        self.assertEqual(book.many(), 6)
        self.assertEqual(book.verses(), ROWS)
        self.assertEqual([book.verse(number) for number in range(6)], ROWS)

    def test_kinds_of_values(self):
        book = Book(ROWS)
        self.assertIs(type(book.verses()), list)
        self.assertEqual({type(verse) for verse in book.verses()}, {list})
        self.assertIs(type(book.verse(0)), list)

    def test_least_and_greatest(self):
        self.assertEqual(Book([["a"]]).verses(), [["a"]])
        self.assertEqual(Book([["abc"] * 8]).verse(0), ["abc"] * 8)
        self.assertEqual(Book([["z"], ["zz"], ["zzz"]]).many(), 3)
        self.assertEqual(Book(many_rows(40)).many(), 40)
        self.assertEqual(Book(many_rows(40)).verse(39), ["bn"])
        self.assertEqual(Book([[letter] for letter in LETTERS]).many(), 26)

    def test_verse_refuses_strange_numbers(self):
        for number in STRANGE:
            with self.assertRaises(NoVerse):
                Book(ROWS).verse(number)

    def test_books_stand_apart(self):
        first, second = Book([["a"]]), Book([["b"], ["c"]])
        self.assertEqual((first.verses(), second.verses()), ([["a"]], [["b"], ["c"]]))


class TestBookRefused(unittest.TestCase):
    def bad_row(self, rows):
        with self.assertRaises(BadVerse) as caught:
            Book(rows)
        return caught.exception.row

    def alike(self, rows):
        with self.assertRaises(Alike) as caught:
            Book(rows)
        return (caught.exception.one, caught.exception.other)

    def test_bad_book(self):
        for many in (0, 41, 42, 100):
            with self.assertRaises(BadBook, msg=many):
                Book(many_rows(many))

    def test_each_bad_syllable(self):
        strange = ["A", "aB", "Zz", "1", "a1", "-", " ", "a ", " a", "a\n", "\n", "`", "{", "a.b"]
        foreign = ["\u00e9", "\u00df", "\u0430", "\uff41"]
        for text in ["", "abcd", "abcdefgh"] + strange + foreign:
            self.assertEqual(self.bad_row([["a"], ["b", text]]), 1, repr(text))
            self.assertEqual(self.bad_row([[text, "b"], ["a"]]), 0, repr(text))

    def test_too_few_and_too_many_syllables(self):
        self.assertEqual(self.bad_row([[]]), 0)
        self.assertEqual(self.bad_row([["a"], ["b"], []]), 2)
        self.assertEqual(self.bad_row([["a"], ["b"] * 9]), 1)
        self.assertEqual(self.bad_row([["a"], ["b"] * 20]), 1)

    def test_least_bad_row(self):
        self.assertEqual(self.bad_row([["a"], ["b", ""], [], ["c"] * 9, ["dddd"], ["E"]]), 1)
        self.assertEqual(self.bad_row([["a"], ["c"] * 9, ["b", ""]]), 1)
        self.assertEqual(self.bad_row([["a"], ["b"], ["dddd"], []]), 2)
        self.assertEqual(self.bad_row([["a"], ["b"], ["c"], ["E"], ["dddd"]]), 3)
        self.assertEqual(self.bad_row(many_rows(39) + [["E"]]), 39)

    def test_alike_where_one_ahead_begins_it(self):
        self.assertEqual(self.alike([["x"], ["a"], ["a", "b"]]), (1, 2))

    def test_alike_where_it_begins_one_ahead(self):
        self.assertEqual(self.alike([["x"], ["a", "b"], ["y"], ["a"]]), (1, 3))

    def test_alike_where_both_are_the_same(self):
        self.assertEqual(self.alike([["a", "b"], ["a", "b"]]), (0, 1))

    def test_least_other_goes_ahead_of_least_one(self):
        self.assertEqual(self.alike([["a"], ["b"], ["b", "c"], ["a", "c"]]), (1, 2))

    def test_least_one_for_the_least_other(self):
        self.assertEqual(self.alike([["x"], ["a", "b"], ["a", "c"], ["a", "d"], ["a"]]), (1, 4))

    def test_alike_at_the_ends_of_a_full_book(self):
        self.assertEqual(self.alike(many_rows(39) + [["aa", "b"]]), (0, 39))

    def test_sharing_is_not_beginning(self):
        self.assertEqual(Book([["a", "b"], ["a", "c"], ["ab"], ["b", "a"], ["abc"]]).many(), 5)

    def test_order_of_refusals(self):
        with self.assertRaises(BadBook):
            Book([["A"], ["a"], ["a"]] + many_rows(39))
        with self.assertRaises(BadBook):
            Book([["a"], ["a"]] + many_rows(39))
        self.assertEqual(self.bad_row([["a"], ["a"], ["b"], []]), 3)
        self.assertEqual(self.bad_row([["a"], ["a", "b"], ["c", "D"], ["E"]]), 2)


class TestMeeting(unittest.TestCase):
    def setUp(self):
        self.book = Book(ROWS)
        self.all = list(range(6))

    def test_nothing_heard(self):
        self.assertEqual(meeting(self.book, self.all, []), self.all)
        self.assertEqual(meeting(self.book, [2, 5], []), [2, 5])

    def test_a_beginning(self):
        self.assertEqual(meeting(self.book, self.all, ["na"]), [1, 2, 4])
        self.assertEqual(meeting(self.book, self.all, ["na", "ni"]), [1, 2])
        self.assertEqual(meeting(self.book, [0, 2, 4], ["na", "ni"]), [2])
        self.assertEqual(meeting(self.book, [0, 3], ["na"]), [])

    def test_a_whole_verse(self):
        for number, verse in enumerate(ROWS):
            self.assertEqual(meeting(self.book, self.all, verse), [number])
            self.assertEqual(meeting(self.book, [n for n in self.all if n != number], verse), [])

    def test_strangers(self):
        ahead = (["x"], ["n"], [""], ["NA"], ["mura"], ["ni"])
        for heard in (*ahead, ["na", "x"], ["na", ""], ["ra", "mu"], ["much", "ra"]):
            self.assertEqual(meeting(self.book, self.all, heard), [], heard)

    def test_more_than_a_verse(self):
        self.assertEqual(meeting(self.book, self.all, ["su", "su"]), [])
        self.assertEqual(meeting(self.book, self.all, ["mu", "ra", "sa"]), [])
        self.assertEqual(meeting(self.book, self.all, ["su"] * 50), [])

    def test_order_and_repetition_of_unread_say_nothing(self):
        self.assertEqual(meeting(self.book, [5, 4, 3, 2, 1, 0], ["na"]), [1, 2, 4])
        self.assertEqual(meeting(self.book, [4, 1, 4, 4, 1, 2], ["na"]), [1, 2, 4])
        self.assertEqual(meeting(self.book, [3] * 200, []), [3])

    def test_none_unread(self):
        self.assertEqual(meeting(self.book, [], []), [])
        self.assertEqual(meeting(self.book, [], ["na"]), [])

    def test_by_the_words_of_the_document(self):
        for many in range(7):
            for unread in combinations(self.all, many):
                for heard in [row[:size] for row in ROWS for size in range(len(row) + 1)]:
                    told = [n for n in unread if ROWS[n][:len(heard)] == heard]
                    self.assertEqual(meeting(self.book, list(unread), heard), told)


class TestGoings(unittest.TestCase):
    def setUp(self):
        self.book = Book(ROWS)
        self.all = list(range(6))

    def test_nothing_heard(self):
        self.assertEqual(goings(self.book, self.all, []), [("mu", 2), ("na", 3), ("su", 1)])

    def test_order_is_that_of_the_least_verse(self):
        self.assertEqual(goings(self.book, [1, 3, 5], []), [("na", 1), ("su", 1), ("mu", 1)])
        self.assertEqual(goings(self.book, [5, 3, 1], []), [("na", 1), ("su", 1), ("mu", 1)])
        self.assertEqual(goings(self.book, [5, 4, 3, 2], []), [("na", 2), ("su", 1), ("mu", 1)])

    def test_a_beginning(self):
        self.assertEqual(goings(self.book, self.all, ["na"]), [("ni", 2), ("ge", 1)])
        self.assertEqual(goings(self.book, self.all, ["na", "ni"]), [("wa", 1), ("shi", 1)])
        self.assertEqual(goings(self.book, self.all, ["mu"]), [("ra", 1), ("ka", 1)])

    def test_a_whole_verse_a_stranger_and_more(self):
        for heard in ROWS + [["x"], ["na", "x"], ["su", "su"], ["su"] * 50, [""]]:
            self.assertEqual(goings(self.book, self.all, heard), [], heard)

    def test_repetition_of_unread_says_nothing(self):
        self.assertEqual(goings(self.book, [4, 2, 2, 1, 4, 2], ["na"]), [("ni", 2), ("ge", 1)])

    def test_none_unread(self):
        self.assertEqual(goings(self.book, [], []), [])

    def test_kinds_of_values(self):
        told = goings(self.book, self.all, [])
        self.assertIs(type(told), list)
        self.assertEqual({type(pair) for pair in told}, {tuple})


class TestNoVerse(unittest.TestCase):
    def test_each_place_of_the_list(self):
        book = Book(ROWS)
        for asked in (meeting, goings):
            for number in STRANGE:
                for unread in ([number], [number, 1, 2], [1, number, 2], [1, 2, number], [1, number, number]):
                    for heard in ([], ["na"], ["x"], ["su", "su"]):
                        with self.assertRaises(NoVerse):
                            asked(book, unread, heard)

    def test_the_count_of_a_full_book(self):
        book = Book(many_rows(40))
        self.assertEqual(meeting(book, [39], []), [39])
        with self.assertRaises(NoVerse):
            meeting(book, [40], [])


if __name__ == "__main__":
    unittest.main()
