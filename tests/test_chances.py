"""Tests of kimariji.chances: promise 14, and its refusals in their order."""

import unittest
from fractions import Fraction
from itertools import permutations, product
from math import gcd
from time import perf_counter

import samples
from samples import ALL, GREAT, ROWS, STRANGE

from kimariji.books import Book
from kimariji.chances import best_gift, decided_by, mean_decided, mean_safe, safe_by, waiting
from kimariji.deals import Deal
from kimariji.errors import NoCard, NoField, NoVerse, ReadAlready

LETTERS = "abcdefghijklmnopqrstuvwxyz"
SMALL = [["a", "b", "c"], ["a", "b", "d"], ["a", "e"], ["f"]]
SPOTS = (None, (0, 0), (1, 0))
SIZES = (0, 1, 2, 3, 4, 9, 10 ** 30, GREAT)
NO_FIELDS = (-1, -2, 2, 3, GREAT, -GREAT)


def decided_size(rows, behind, verse):
    """The count of syllables of the deciding beginning, by the words of point 5."""
    others = [rows[n] for n in behind if n != verse]
    return [s for s in range(9) if all(other[:s] != rows[verse][:s] for other in others)][0]


def safe_size(rows, fields, behind, verse):
    """The moment, by the words of point 9."""
    others = [n for n in behind if n != verse]

    def fits(size):
        long = [n for n in others if len(rows[n]) >= size <= len(rows[verse])]
        sharing = [n for n in long if rows[n][:size] == rows[verse][:size]]
        return all(fields.get(n) == fields[verse] for n in sharing)

    return [size for size in range(9) if fits(size)][0]


def sizes_of_orders(unread, verse, size_of):
    """What is told of a verse when it comes, for each order of the unread verses."""
    return [size_of(order[order.index(verse):], verse) for order in permutations(sorted(set(unread)))]


def chance(sizes, size):
    return pair(Fraction(len([found for found in sizes if found <= size]), len(sizes)))


def mean(sizes):
    return pair(Fraction(sum(sizes), len(sizes)))


def pair(fraction):
    return (fraction.numerator, fraction.denominator)


def fields_of(deal):
    return {card: field for field in (0, 1) for card in deal.cards(field)}


def counted_waiting(rows, unread, fields):
    """The waiting, by going through all orders."""
    total = Fraction(0)
    for verse in set(unread) & set(fields):
        sizes = sizes_of_orders(unread, verse, lambda behind, v: safe_size(rows, fields, behind, v))
        total += Fraction(sum(sizes), len(sizes))
    return total


def counted_gift(rows, unread, deal, field):
    """The best gift, by going through all orders for each card."""
    fields = fields_of(deal)
    waits = [(counted_waiting(rows, unread, {**fields, card: 1 - field}), card) for card in deal.cards(field)]
    return (min(waits)[1], pair(min(waits)[0])) if waits else None


class TestDecided(unittest.TestCase):
    def setUp(self):
        self.book = samples.book()

    def test_all_unread(self):
        # Of six verses, three share one syllable with verse 1, and two of these a second one.
        told = [decided_by(self.book, ALL, 1, size) for size in range(5)]
        self.assertEqual(told, [(1, 6), (1, 4), (1, 3), (1, 1), (1, 1)])
        self.assertEqual(mean_decided(self.book, ALL, 1), (9, 4))
        self.assertEqual(mean_decided(self.book, ALL, 3), (5, 6))

    def test_without_rivals(self):
        for verse, size in product(ALL, SIZES):
            self.assertEqual(decided_by(self.book, [verse], verse, size), (1, 1))
            self.assertEqual(decided_by(self.book, [verse, verse], verse, size), (1, 1))
        for verse in ALL:
            self.assertEqual(mean_decided(self.book, [verse], verse), (0, 1))

    def test_nothing_shared_but_the_size_0(self):
        self.assertEqual([decided_by(self.book, [0, 3], 0, size) for size in (0, 1, GREAT)], [(1, 2), (1, 1), (1, 1)])
        self.assertEqual(mean_decided(self.book, [0, 3], 0), (1, 2))

    def test_against_all_orders(self):
        for unread in samples.subsets(ALL):
            for verse in unread:
                sizes = sizes_of_orders(unread, verse, lambda behind, v: decided_size(ROWS, behind, v))
                self.assertEqual(mean_decided(self.book, unread, verse), mean(sizes))
                for size in SIZES:
                    self.assertEqual(decided_by(self.book, unread, verse, size), chance(sizes, size))

    def test_order_and_repetition_of_unread_say_nothing(self):
        for unread in ([5, 4, 2, 1], [1, 1, 2, 5, 4, 4, 5, 1]):
            self.assertEqual(decided_by(self.book, unread, 1, 1), (1, 4))
            self.assertEqual(decided_by(self.book, unread, 1, 2), (1, 3))
            self.assertEqual(mean_decided(self.book, unread, 1), (13, 6))


class TestSafe(unittest.TestCase):
    def test_all_unread(self):
        deal = samples.deal()
        # Verses 0, 3, 4 and 5 do not lie on the field of verse 1: 4 and 5 share one syllable, 5 two with it.
        self.assertEqual([safe_by(deal, ALL, 1, size) for size in range(5)], [(1, 5), (1, 3), (1, 2), (1, 1), (1, 1)])
        self.assertEqual(mean_safe(deal, ALL, 1), (59, 30))

    def test_rivals_on_its_own_field_alone(self):
        deal = Deal(Book(SMALL), [[0, 1], [2]], [[3]])
        for size in SIZES:
            self.assertEqual(safe_by(deal, [0, 1, 2], 0, size), (1, 1))
        self.assertEqual(mean_safe(deal, [0, 1, 2], 0), (0, 1))

    def test_rivals_on_the_other_field_and_nowhere(self):
        on_other, nowhere = Deal(Book(SMALL), [[0]], [[1]]), Deal(Book(SMALL), [[0]], [[]])
        for deal in (on_other, nowhere):
            self.assertEqual([safe_by(deal, [0, 1], 0, size) for size in range(5)], [(1, 2)] * 3 + [(1, 1)] * 2)
            self.assertEqual(mean_safe(deal, [0, 1], 0), (3, 2))
            self.assertEqual(safe_by(deal, [0, 1], 0, GREAT), (1, 1))

    def test_without_rivals(self):
        deal = Deal(Book(SMALL), [[0]], [[1, 2, 3]])
        for size in SIZES:
            self.assertEqual(safe_by(deal, [0], 0, size), (1, 1))
        self.assertEqual(mean_safe(deal, [0, 0], 0), (0, 1))

    def test_against_all_orders(self):
        for deal in samples.all_laid(SMALL, SPOTS):
            fields = fields_of(deal)
            for unread in samples.subsets(range(4)):
                for verse in [n for n in unread if n in fields]:
                    sizes = sizes_of_orders(unread, verse, lambda behind, v: safe_size(SMALL, fields, behind, v))
                    self.assertEqual(mean_safe(deal, unread, verse), mean(sizes))
                    for size in SIZES:
                        self.assertEqual(safe_by(deal, unread, verse, size), chance(sizes, size))

    def test_against_all_orders_of_six(self):
        deal = samples.deal()
        for verse in (0, 1, 2, 4, 5):
            sizes = sizes_of_orders(ALL, verse, lambda behind, v: safe_size(ROWS, fields_of(deal), behind, v))
            self.assertEqual(mean_safe(deal, ALL, verse), mean(sizes))
            self.assertEqual([safe_by(deal, ALL, verse, size) for size in SIZES], [chance(sizes, s) for s in SIZES])

    def test_order_and_repetition_of_unread_say_nothing(self):
        for unread in ([5, 4, 2, 1], [1, 1, 2, 5, 4, 4, 5, 1]):
            self.assertEqual(safe_by(samples.deal(), unread, 1, 1), (1, 3))
            self.assertEqual(mean_safe(samples.deal(), unread, 1), (11, 6))


class TestWaiting(unittest.TestCase):
    def test_no_unread_verse(self):
        self.assertEqual(waiting(samples.deal(), []), (0, 1))

    def test_verses_that_lie_nowhere(self):
        self.assertEqual(waiting(samples.deal(), [3]), (0, 1))
        self.assertEqual(waiting(Deal(Book(SMALL), [[]], [[]]), [0, 1, 2, 3]), (0, 1))
        # Verse 3 has no moment, but it is a rival.
        self.assertEqual(waiting(samples.deal(), [0, 3]), (1, 2))

    def test_it_is_the_sum_of_the_means(self):
        deal = samples.deal()
        means = [Fraction(*mean_safe(deal, ALL, verse)) for verse in (0, 1, 2, 4, 5)]
        self.assertEqual(waiting(deal, ALL), pair(sum(means)))

    def test_against_all_orders(self):
        for deal in samples.all_laid(SMALL, SPOTS):
            for unread in samples.subsets(range(4)):
                self.assertEqual(waiting(deal, unread), pair(counted_waiting(SMALL, unread, fields_of(deal))))

    def test_order_and_repetition_of_unread_say_nothing(self):
        wanted = waiting(samples.deal(), [0, 1, 4, 5])
        for unread in ([5, 4, 1, 0], [5, 5, 0, 1, 4, 0, 5]):
            self.assertEqual(waiting(samples.deal(), unread), wanted)


class TestBestGift(unittest.TestCase):
    def test_the_least_waiting(self):
        # Verse 2 lies alone among the others' rivals: sent, all lie on one field.
        deal = Deal(Book(SMALL), [[2, 3]], [[0, 1]])
        fields = fields_of(deal)
        waits = {card: counted_waiting(SMALL, [0, 1, 2, 3], {**fields, card: 1}) for card in (2, 3)}
        self.assertLess(waits[2], waits[3])
        self.assertEqual(best_gift(deal, [0, 1, 2, 3], 0), (2, pair(waits[2])))

    def test_of_several_the_least_verse(self):
        book = Book([["a"], ["b"], ["c"], ["d"]])
        for rows in ([[3, 1], [2]], [[2, 3, 1]], [[], [2], [1, 3]]):
            told = best_gift(Deal(book, rows, [[0]]), [0, 1, 2, 3], 0)
            self.assertEqual(told[0], 1)
            self.assertEqual(told[1], pair(counted_waiting(book.verses(), range(4), {0: 1, 1: 1, 2: 0, 3: 0})))

    def test_a_verse_that_is_not_unread(self):
        # Sent, it changes no waiting: 0 stays, while every unread card would make the others wait.
        deal = Deal(Book(SMALL), [[0, 1, 2, 3]], [[]])
        self.assertEqual(best_gift(deal, [0, 1, 2], 0), (3, (0, 1)))
        self.assertEqual(best_gift(deal, [], 0), (0, (0, 1)))
        self.assertEqual(best_gift(deal, [0], 0), (0, (0, 1)))

    def test_none_where_no_card_lies_on_the_field(self):
        for unread in samples.subsets(range(4)):
            self.assertIsNone(best_gift(Deal(Book(SMALL), [[0, 1]], [[], []]), unread, 1))
            self.assertIsNone(best_gift(Deal(Book(SMALL), [[], [], []], [[0, 1]]), unread, 0))

    def test_to_a_field_whose_rows_are_full(self):
        rows = [["a", letter] for letter in "bcde"] + [[letter] for letter in "fghijklmnopq"]
        deal = Deal(Book(rows), [[0, 1, 15]], [[2] + list(range(4, 15))])
        self.assertEqual(len(deal.rows(1)[0]), 12)
        for unread in ([0, 2, 3], [0, 1, 2], [2, 15, 0, 1], [0, 1], []):
            self.assertEqual(best_gift(deal, unread, 0), counted_gift(rows, unread, deal, 0))

    def test_against_all_orders(self):
        for deal in samples.all_laid(SMALL, SPOTS):
            for unread, field in product(samples.subsets(range(4)), (0, 1)):
                self.assertEqual(best_gift(deal, unread, field), counted_gift(SMALL, unread, deal, field))

    def test_against_the_waiting_of_the_deal_with_the_card_sent(self):
        deal = samples.deal()
        for unread, field in product(samples.subsets(ALL), (0, 1)):
            waits = [(Fraction(*waiting(deal.sent(card, 0), unread)), card) for card in deal.cards(field)]
            self.assertEqual(best_gift(deal, unread, field), (min(waits)[1], pair(min(waits)[0])))

    def test_order_and_repetition_of_unread_say_nothing(self):
        wanted = best_gift(samples.deal(), [0, 1, 4, 5], 0)
        for unread in ([5, 4, 1, 0], [5, 5, 0, 1, 4, 0, 5]):
            self.assertEqual(best_gift(samples.deal(), unread, 0), wanted)


class TestSoon(unittest.TestCase):
    """A book of forty verses, whose orders are far too many to go through."""

    def setUp(self):
        self.rows = [["na"] * 5 + [LETTERS[n // 8], LETTERS[n // 2 % 4], LETTERS[n % 2]] for n in range(40)]
        self.book = Book(self.rows)
        self.all = list(range(40))
        self.deal = Deal(self.book, [list(range(f, 36, 3)) for f in range(3)], [[36], [39], [38]])

    def shared(self, one, other):
        return [size for size in range(9) if self.rows[one][:size] == self.rows[other][:size]][-1]

    def by_words(self, holding, verse):
        """The mean size for a verse that these verses hold up."""
        total = Fraction(0)
        for size in range(8):
            many = len([n for n in holding if n != verse and self.shared(n, verse) >= size])
            total += 1 - Fraction(1, many + 1)
        return total

    def test_told_soon(self):
        begun = perf_counter()
        self.assertEqual(decided_by(self.book, self.all, 0, 5), (1, 40))
        self.assertEqual([decided_by(self.book, self.all, 0, size) for size in (6, 7, 8)], [(1, 8), (1, 2), (1, 1)])
        self.assertEqual(mean_decided(self.book, self.all, 0), pair(self.by_words(self.all, 0)))
        self.assertEqual(safe_by(self.deal, self.all, 39, 4), (1, 38))
        self.assertEqual(mean_safe(self.deal, self.all, 39), pair(self.by_words(list(range(36)) + [37], 39)))
        self.assertEqual(mean_safe(self.deal, self.all, 0), pair(self.by_words([36, 37, 38, 39], 0)))
        total = sum(self.by_words([36, 37, 38, 39], n) for n in range(36))
        total += sum(self.by_words(list(range(36)) + [37], n) for n in (36, 38, 39))
        self.assertEqual(waiting(self.deal, self.all), pair(total))
        self.assertEqual(best_gift(self.deal, self.all, 1)[0], 36)
        self.assertEqual(best_gift(self.deal, self.all, 0)[1], waiting(self.sent(0), self.all))
        self.assertLess(perf_counter() - begun, 10)

    def sent(self, field):
        return self.deal.sent(best_gift(self.deal, self.all, field)[0], 0)

    def test_lowest_terms(self):
        told = [waiting(self.deal, self.all), mean_safe(self.deal, self.all, 39), best_gift(self.deal, self.all, 0)[1]]
        for top, bottom in told:
            self.assertEqual((gcd(top, bottom), bottom > 0), (1, True))


class TestKinds(unittest.TestCase):
    def test_kinds_of_values(self):
        book, deal = samples.book(), samples.deal()
        told = [decided_by(book, ALL, 1, 2), mean_decided(book, ALL, 1), safe_by(deal, ALL, 1, 2),
                mean_safe(deal, ALL, 1), waiting(deal, ALL), best_gift(deal, ALL, 0)[1]]
        self.assertEqual({type(part) for part in told}, {tuple})
        self.assertEqual({type(number) for part in told for number in part}, {int})
        self.assertEqual([type(thing) for thing in best_gift(deal, ALL, 0)], [int, tuple])
        self.assertIs(type(best_gift(deal, ALL, 0)), tuple)


class TestRefusals(unittest.TestCase):
    def setUp(self):
        self.book, self.deal = samples.book(), samples.deal()

    def verse_questions(self, unread, verse):
        yield lambda: mean_decided(self.book, unread, verse)
        yield lambda: mean_safe(self.deal, unread, verse)
        for size in (0, 2, GREAT):
            yield lambda size=size: decided_by(self.book, unread, verse, size)
            yield lambda size=size: safe_by(self.deal, unread, verse, size)

    def refused(self, error, questions):
        for ask in questions:
            with self.assertRaises(error):
                ask()

    def test_no_verse_goes_first(self):
        for number in STRANGE:
            for unread in ([], ALL, [number], [0]):
                self.refused(NoVerse, self.verse_questions(unread, number))
            # Neither a verse that was read nor one that lies nowhere is told ahead of it.
            for unread, verse in (([number], 0), ([0, number], 0), ([number, 3], 3), ([1, number, 2], 3)):
                self.refused(NoVerse, self.verse_questions(unread, verse))
            for unread in ([number], [number, 0], [0, number, 3]):
                self.refused(NoVerse, [lambda: waiting(self.deal, unread)])
                for field in (0, 1) + NO_FIELDS:
                    self.refused(NoVerse, [lambda: best_gift(self.deal, unread, field)])

    def test_read_already_goes_ahead_of_no_card(self):
        for verse in ALL:
            for unread in ([], [number for number in ALL if number != verse]):
                self.refused(ReadAlready, self.verse_questions(unread, verse))

    def test_no_card(self):
        for unread in ([3], ALL, [0, 3, 3]):
            self.refused(NoCard, [lambda: mean_safe(self.deal, unread, 3)])
            for size in SIZES:
                self.refused(NoCard, [lambda: safe_by(self.deal, unread, 3, size)])
                self.assertEqual(decided_by(self.book, [3], 3, size), (1, 1))

    def test_no_field(self):
        for field in NO_FIELDS:
            for unread in ([], [3], ALL):
                self.refused(NoField, [lambda: best_gift(self.deal, unread, field)])


if __name__ == "__main__":
    unittest.main()
