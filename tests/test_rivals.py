"""Tests of kimariji.rivals: promise 5, and NoVerse of its questions."""

import unittest
from itertools import combinations, permutations

from kimariji.books import Book
from kimariji.errors import NoVerse
from kimariji.rivals import deciding, hurdles, rivals, shared

# Verse 1 has rivals by each size from 0 to 3; verse 3 has none by the size 1.
ROWS = [
    ["mu", "ra"],
    ["na", "ni", "wa", "no"],
    ["na", "ni", "shi"],
    ["su"],
    ["na", "ge"],
    ["na", "ni", "wa", "e"],
]
ALL = list(range(6))
LONGEST = 4
STRANGE = (-1, -6, -7, 6, 7, -(10 ** 30), 10 ** 30, 10 ** 5000, -(10 ** 5000))


def shares(one, other, size):
    """What point 5 says, word by word."""
    return len(one) >= size and len(other) >= size and one[:size] == other[:size]


def subsets():
    return [list(some) for many in range(7) for some in combinations(ALL, many)]


class TestShared(unittest.TestCase):
    def setUp(self):
        self.book = Book(ROWS)

    def test_both_ways(self):
        sizes = {(0, 1): 0, (0, 3): 0, (1, 2): 2, (1, 4): 1, (1, 5): 3, (2, 4): 1, (2, 5): 2, (4, 5): 1}
        for (one, other), size in sizes.items():
            self.assertEqual(shared(self.book, one, other), size)
            self.assertEqual(shared(self.book, other, one), size)

    def test_with_itself(self):
        self.assertEqual([shared(self.book, n, n) for n in ALL], [2, 4, 3, 1, 2, 4])

    def test_later_syllables_say_nothing(self):
        book = Book([["a", "b", "c"], ["x", "b", "c"], ["a", "x", "c"], ["ab", "b"]])
        self.assertEqual([shared(book, 0, n) for n in range(4)], [3, 0, 1, 0])

    def test_no_verse(self):
        for number in STRANGE:
            for one, other in ((number, 0), (0, number), (number, number), (5, number)):
                with self.assertRaises(NoVerse):
                    shared(self.book, one, other)


class TestRivals(unittest.TestCase):
    def setUp(self):
        self.book = Book(ROWS)

    def test_each_size(self):
        told = [rivals(self.book, ALL, 1, size) for size in range(LONGEST + 3)]
        self.assertEqual(told, [[0, 2, 3, 4, 5], [2, 4, 5], [2, 5], [5], [], [], []])

    def test_great_sizes(self):
        for size in (100, 10 ** 30, 10 ** 5000):
            for verse in ALL:
                self.assertEqual(rivals(self.book, ALL, verse, size), [])

    def test_turned_about_and_repeated(self):
        self.assertEqual(rivals(self.book, [5, 4, 4, 2, 1, 0, 5], 1, 1), [2, 4, 5])

    def test_whether_the_verse_is_unread_says_nothing(self):
        self.assertEqual(rivals(self.book, [0, 2, 5], 1, 2), [2, 5])
        self.assertEqual(rivals(self.book, [0, 1, 2, 5], 1, 2), [2, 5])

    def test_no_other_unread(self):
        for size in range(6):
            self.assertEqual(rivals(self.book, [], 1, size), [])
            self.assertEqual(rivals(self.book, [1], 1, size), [])

    def test_by_the_words_of_the_document(self):
        for unread in subsets():
            for verse in ALL:
                for size in range(LONGEST + 2):
                    told = [n for n in unread if n != verse and shares(ROWS[n], ROWS[verse], size)]
                    self.assertEqual(rivals(self.book, unread, verse, size), told)


class TestDeciding(unittest.TestCase):
    def setUp(self):
        self.book = Book(ROWS)

    def test_all_unread(self):
        told = [deciding(self.book, ALL, verse) for verse in ALL]
        wanted = [["mu"], ["na", "ni", "wa", "no"], ["na", "ni", "shi"], ["su"], ["na", "ge"], ["na", "ni", "wa", "e"]]
        self.assertEqual(told, wanted)

    def test_fewer_unread(self):
        self.assertEqual(deciding(self.book, [0, 1, 2, 3, 4], 1), ["na", "ni", "wa"])
        self.assertEqual(deciding(self.book, [0, 1, 3, 4], 1), ["na", "ni"])
        self.assertEqual(deciding(self.book, [0, 1, 3], 1), ["na"])
        self.assertEqual(deciding(self.book, [3, 0], 1), ["na"])

    def test_no_other_unread(self):
        for verse in ALL:
            self.assertEqual(deciding(self.book, [], verse), [])
            self.assertEqual(deciding(self.book, [verse], verse), [])
            self.assertEqual(deciding(self.book, [verse, verse], verse), [])

    def test_by_the_words_of_the_document(self):
        for unread in subsets():
            for verse in ALL:
                others = [ROWS[n] for n in unread if n != verse]
                beginnings = [ROWS[verse][:size] for size in range(len(ROWS[verse]) + 1)]
                told = [b for b in beginnings if all(other[:len(b)] != b for other in others)][0]
                self.assertEqual(deciding(self.book, unread, verse), told)


class TestHurdles(unittest.TestCase):
    def setUp(self):
        self.book = Book(ROWS)

    def test_all_unread(self):
        self.assertEqual(hurdles(self.book, ALL, 1), [[0, 2, 3, 4, 5], [2, 4, 5], [2, 5], [5]])
        self.assertEqual(hurdles(self.book, ALL, 3), [[0, 1, 2, 4, 5]])
        self.assertEqual(hurdles(self.book, ALL, 4), [[0, 1, 2, 3, 5], [1, 2, 5]])

    def test_turned_about_and_repeated(self):
        self.assertEqual(hurdles(self.book, [5, 2, 5, 0, 2], 1), [[0, 2, 5], [2, 5], [2, 5], [5]])

    def test_whether_the_verse_is_unread_says_nothing(self):
        self.assertEqual(hurdles(self.book, [0, 4], 1), [[0, 4], [4]])
        self.assertEqual(hurdles(self.book, [0, 1, 4], 1), [[0, 4], [4]])

    def test_no_other_unread(self):
        for verse in ALL:
            self.assertEqual(hurdles(self.book, [], verse), [])
            self.assertEqual(hurdles(self.book, [verse], verse), [])

    def test_by_the_words_of_the_document(self):
        for unread in subsets():
            for verse in ALL:
                told = hurdles(self.book, unread, verse)
                self.assertEqual(len(told), len(deciding(self.book, unread, verse)))
                for size, some in enumerate(told):
                    self.assertEqual(some, rivals(self.book, unread, verse, size))

    def test_deciding_is_short_just_where_the_hurdles_are_read_ahead(self):
        for verse in ALL:
            told = hurdles(self.book, ALL, verse)
            for order in permutations(ALL):
                behind = list(order[order.index(verse):])
                size = len(deciding(self.book, behind, verse))
                for limit, some in enumerate(told):
                    self.assertEqual(size <= limit, not set(some) & set(behind))


class TestNoVerse(unittest.TestCase):
    def questions(self, unread, verse):
        yield lambda book: deciding(book, unread, verse)
        yield lambda book: hurdles(book, unread, verse)
        for size in (0, 2, 10 ** 30):
            yield lambda book: rivals(book, unread, verse, size)

    def refused(self, unread, verse):
        for ask in self.questions(unread, verse):
            with self.assertRaises(NoVerse):
                ask(Book(ROWS))

    def test_the_verse(self):
        for number in STRANGE:
            for unread in ([], [0], ALL, [number]):
                self.refused(unread, number)

    def test_each_place_of_the_list(self):
        for number in STRANGE:
            for unread in ([number], [number, 1, 2], [1, number, 2], [1, 2, number]):
                for verse in (0, 1, 3):
                    self.refused(unread, verse)


if __name__ == "__main__":
    unittest.main()
