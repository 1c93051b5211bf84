"""Tests of kimariji.minutes: promises 20 and 21, texts written and read, and the rows with which they are refused."""

import re
import unittest
from random import Random
from time import perf_counter

from halls import TINY, Place, told, walked
from samples import ONE, ROWS, ZERO

from kimariji.books import Book
from kimariji.errors import BadText, NothingLeft, SnatchError
from kimariji.hall import Hall
from kimariji.minutes import book_text, hall_text, read_book, read_hall

LETTERS = "abcdefghijklmnopqrstuvwxyz"
ROWS_TEXT = "mu ra\nna ni wa\nna ni shi\nsu\nna ge\nna ni ho"

# A row of each form, and every deed done.
WHOLE = """hall
shelve poems mu.ra;na.ni.wa;na.ni.shi;su;na.ge;na.ni.ho
shelve b a.b;a.c;d
lay first poems 5,0/4 -/2,1
lay t b 0,2 -/1/-
move first 0 4 0 2
read first 2
say first
touch first 0 1 1 0 1
touch first 1 0 0 0 2
read t 2
say first
hush t
say first
close first
send first 0 1
waive first
strike first 2
fold t
lay t poems 4 1"""

# The deeds that a good row may tell, by the words of point 21.
NAME, NUMBER, SYLLABLE = "[a-z]{1,8}", "(?:0|[1-9][0-9]?)", "[a-z]{1,3}"
CARDS = f"(?:-|{NUMBER}(?:,{NUMBER})*)"
FIELD = f"{CARDS}(?:/{CARDS})*"
VERSE = rf"{SYLLABLE}(?:\.{SYLLABLE})*"
FORMS = [
    f"shelve {NAME} {VERSE}(?:;{VERSE})*", f"lay {NAME} {NAME} {FIELD} {FIELD}",
    f"(?:say|close|hush|waive|fold) {NAME}", f"(?:read|strike) {NAME} {NUMBER}", f"send {NAME}(?: {NUMBER}){{2}}",
    f"move {NAME}(?: {NUMBER}){{4}}", f"touch {NAME}(?: {NUMBER}){{5}}",
]


def rows_of(field):
    return [[] if row == "-" else [int(card) for card in row.split(",")] for row in field.split("/")]


def deed_of(row):
    """The deed that a row tells, or None where it is no such row."""
    if not any(re.fullmatch(form, row) for form in FORMS):
        return None
    word, name, *texts = row.split(" ")
    if word == "shelve":
        return (word, name, [verse.split(".") for verse in texts[0].split(";")])
    if word == "lay":
        return (word, name, texts[0], rows_of(texts[1]), rows_of(texts[2]))
    things = [int(text) for text in texts]
    return (word, name, things[0], tuple(things[1:])) if word == "touch" else (word, name, *things)


def wrong_row(text):
    """The row with which the text of a hall must be refused, or None; and the place that it tells."""
    head, *rows = text.split("\n")
    place = Place()
    if head != "hall":
        return (0, place)
    for at, row in enumerate(rows, start=1):
        deed = deed_of(row)
        if deed is None or place.refusal(*deed) is not None:
            return (at, place)
        place.do(*deed)
    return (None, place)


def is_book(rows):
    """Whether rows are those of a book, by the words of points 3 and 20."""
    if not all(re.fullmatch("[a-z]{1,3}( [a-z]{1,3}){0,7}", row) for row in rows):
        return False
    # A blank behind each row, so that only whole syllables count as a beginning.
    alike = [(a, b) for b in range(len(rows)) for a in range(len(rows)) if a != b]
    return 1 <= len(rows) <= 40 and not any((rows[b] + " ").startswith(rows[a] + " ") for a, b in alike)


def wrong_verse(text):
    """The row with which the text of a book must be refused, or None."""
    rows = text.split("\n")
    return next((at for at in range(len(rows)) if not is_book(rows[:at + 1])), None)


def changed(text, signs):
    """All texts with a sign less, a sign more, a sign changed, or a row less, more or twice."""
    for at in range(len(text)):
        yield text[:at] + text[at + 1:]
        for sign in signs:
            yield text[:at] + sign + text[at:]
            yield text[:at] + sign + text[at + 1:]
    for sign in signs:
        yield text + sign
    rows = text.split("\n")
    for at in range(len(rows)):
        yield "\n".join(rows[:at] + rows[at + 1:])
        yield "\n".join(rows[:at] + [""] + rows[at:])
        yield "\n".join(rows[:at] + [rows[at]] + rows[at:])


class Refusing(unittest.TestCase):
    def refused(self, row, ask, text):
        with self.assertRaises(BadText, msg=repr(text)) as caught:
            ask(text)
        self.assertEqual(caught.exception.row, row, repr(text))
        self.assertIs(type(caught.exception.row), int)


class TestBookText(unittest.TestCase):
    def test_written(self):
        self.assertEqual(book_text(Book(ROWS)), ROWS_TEXT)
        self.assertEqual(book_text(Book([["a"]])), "a")
        self.assertEqual(book_text(Book([["abc"] * 8, ["z"]])), "abc abc abc abc abc abc abc abc\nz")

    def test_read_back(self):
        forty = [["a"] * 7 + [LETTERS[n // 26] + LETTERS[n % 26]] for n in range(40)]
        for rows in (ROWS, TINY, [["a"]], [["abc"] * 8], forty):
            again = read_book(book_text(Book(rows)))
            self.assertIs(type(again), Book)
            self.assertEqual((again.verses(), again.many()), (rows, len(rows)))
            self.assertEqual(book_text(again), book_text(Book(rows)))


class TestReadBook(Refusing):
    def test_no_sign_at_all(self):
        self.refused(0, read_book, "")

    def test_blanks(self):
        for row in (" ", " a", "a ", "a  b", "a b ", "  "):
            self.refused(0, read_book, row)
            self.refused(1, read_book, "c\n" + row)
            self.refused(0, read_book, row + "\nc")

    def test_empty_rows_and_a_line_feed_at_the_end(self):
        self.refused(0, read_book, "\n")
        self.refused(0, read_book, "\na")
        self.refused(1, read_book, "a\n")
        self.refused(1, read_book, "a\n\nb")
        self.refused(2, read_book, "a\nb\n")
        self.refused(6, read_book, ROWS_TEXT + "\n")

    def test_what_is_no_syllable(self):
        for sign in "A Z 0 - . ; , / ~ ! ` { } ' @ [".split() + ["abcd"]:
            self.refused(0, read_book, sign)
            self.refused(1, read_book, "a b\nc " + sign + "\n" + sign)

    def test_nine_syllables(self):
        self.assertEqual(read_book("b\na a a a a a a a").many(), 2)
        self.refused(1, read_book, "b\na a a a a a a a a")

    def test_forty_one_rows(self):
        rows = [LETTERS[n // 26] + LETTERS[n % 26] for n in range(43)]
        self.assertEqual(read_book("\n".join(rows[:40])).many(), 40)
        self.refused(40, read_book, "\n".join(rows[:41]))
        self.refused(40, read_book, "\n".join(rows))
        self.refused(40, read_book, "\n".join(rows[:40]) + "\n")
        self.refused(7, read_book, "\n".join(rows[:7] + ["A"] + rows[7:]))

    def test_the_first_row_goes_whatever_follows(self):
        # Row 1 is alike to row 0; that there is no verse in row 2, or too many rows, says nothing.
        self.refused(1, read_book, "a\na b\nA")
        self.refused(2, read_book, "a b\nc\na\nA")
        self.refused(2, read_book, "a b\nc\nA\na")
        self.refused(1, read_book, "a\n" * 60)

    def test_alike(self):
        self.refused(1, read_book, "a\na")
        self.refused(1, read_book, "a b\na")
        self.refused(3, read_book, "a b\nc\na c\nc d\na")
        self.assertEqual(read_book("a b\nab").verses(), [["a", "b"], ["ab"]])

    def test_each_text_with_a_sign_changed(self):
        seen = set()
        for text in (ROWS_TEXT, "a b\na c\nb\nca"):
            for other in changed(text, "abiA0 .\n"):
                row = wrong_verse(other)
                seen.add(row is None)
                if row is None:
                    self.assertEqual(read_book(other).verses(), [verse.split(" ") for verse in other.split("\n")])
                    self.assertEqual(book_text(read_book(other)), other)
                else:
                    self.refused(row, read_book, other)
        self.assertEqual(seen, {True, False})

    def test_great_texts_are_told_soon(self):
        begun = perf_counter()
        for row, text in ((0, "a" * 40000), (0, "\n" * 40000), (0, " " * 40000), (0, "a " * 20000),
                          (1, "a\n" * 20000)):
            self.refused(row, read_book, text)
        self.assertLess(perf_counter() - begun, 5)


class TestHallText(unittest.TestCase):
    def test_nothing_done(self):
        self.assertEqual(hall_text(Hall()), "hall")
        self.assertEqual(told(read_hall("hall")), ([], [], []))

    def test_each_deed(self):
        some = Hall()
        some.shelve("poems", ROWS)
        some.shelve("one", [["abc"]])
        some.shelve("tiny", TINY)
        some.lay("t", "poems", ZERO, ONE)
        some.lay("tiny", "tiny", [[], [0], []], [[2, 1]])
        some.move("t", 0, 4, 0, 2)
        some.read("t", 2)
        some.touch("t", 1, (0, 0, 0, 2))
        some.hush("t")
        some.read("t", 2)
        some.touch("t", 0, (1, 1, 0, 0))
        some.touch("t", 1, (0, 0, 1, 2))
        for syllable in ROWS[2]:
            some.say("t")
        some.close("t")
        some.send("t", 5, 0)
        some.waive("t")
        some.strike("t", 2)
        some.fold("tiny")
        self.assertEqual(hall_text(some).split("\n"), [
            "hall", "shelve poems mu.ra;na.ni.wa;na.ni.shi;su;na.ge;na.ni.ho", "shelve one abc",
            "shelve tiny a.b;a.c;d", "lay t poems 5,0/4 -/2,1", "lay tiny tiny -/0/- 2,1", "move t 0 4 0 2",
            "read t 2",
            "touch t 1 0 0 0 2", "hush t", "read t 2", "touch t 0 1 1 0 0", "touch t 1 0 0 1 2", "say t", "say t",
            "say t", "close t", "send t 5 0", "waive t", "strike t 2", "fold tiny",
        ])

    def test_numbers_of_two_figures(self):
        rows = [[LETTERS[n // 26] + LETTERS[n % 26]] for n in range(40)]
        some = Hall()
        some.shelve("wide", rows)
        some.lay("t", "wide", [list(range(28, 40))], [[0, 10]])
        some.move("t", 0, 39, 0, 10)
        some.read("t", 20)
        some.touch("t", 0, (0, 0, 10, 11))
        self.assertEqual(hall_text(some).split("\n")[2:], [
            "lay t wide 28,29,30,31,32,33,34,35,36,37,38,39 0,10", "move t 0 39 0 10", "read t 20",
            "touch t 0 0 0 10 11",
        ])
        self.assertEqual(told(read_hall(hall_text(some))), told(some))

    def test_what_was_taken_back_is_not_written(self):
        some = read_hall(WHOLE)
        rows = WHOLE.split("\n")
        for many in range(len(rows) - 1, 0, -1):
            some.back()
            self.assertEqual(hall_text(some), "\n".join(rows[:many]))
        some.again()
        some.again()
        self.assertEqual(hall_text(some), "\n".join(rows[:3]))

    def test_writing_changes_nothing(self):
        some = read_hall(WHOLE)
        some.back()
        before = told(some)
        self.assertEqual(hall_text(some), hall_text(some))
        self.assertEqual(told(some), before)
        some.again()
        self.assertEqual(hall_text(some), WHOLE)


class TestReadHall(Refusing):
    def test_read_back(self):
        some = read_hall(WHOLE)
        self.assertIs(type(some), Hall)
        self.assertEqual(hall_text(some), WHOLE)
        self.assertEqual((some.books(), some.tables()), (["poems", "b"], ["first", "t"]))
        self.assertEqual(told(some), wrong_row(WHOLE)[1].told())

    def test_just_these_deeds_were_done(self):
        some = read_hall(WHOLE)
        with self.assertRaises(NothingLeft):
            some.again()
        for deed in WHOLE.split("\n")[1:]:
            some.back()
        self.assertEqual(told(some), ([], [], []))
        with self.assertRaises(NothingLeft):
            some.back()

    def test_walks_are_written_and_read_back(self):
        for seed in range(40):
            some, place = walked(Random(seed), 150)
            text = hall_text(some)
            again = read_hall(text)
            self.assertEqual(told(again), place.told())
            self.assertEqual(hall_text(again), text)
            self.assertEqual([deed_of(row) for row in text.split("\n")[1:]], some.deeds())

    def test_texts_read_stand_apart(self):
        one, other = read_hall(WHOLE), read_hall(WHOLE)
        one.fold("first")
        self.assertEqual((one.tables(), other.tables()), (["t"], ["first", "t"]))

    def test_the_head(self):
        for text in ("", "\n", " ", "Hall", "hal", "halls", "hall ", " hall", "hall hall", "\nhall", "HALL",
                     "shelve b a", WHOLE[5:]):
            self.refused(0, read_hall, text)
        self.refused(0, read_hall, "hal\nnothing")
        self.refused(1, read_hall, "hall\nhall")

    def test_empty_rows_and_a_line_feed_at_the_end(self):
        self.refused(1, read_hall, "hall\n")
        self.refused(1, read_hall, "hall\n\n")
        self.refused(1, read_hall, "hall\n\nshelve b a")
        self.refused(2, read_hall, "hall\nshelve b a\n")
        self.refused(20, read_hall, WHOLE + "\n")

    def ahead(self, row):
        """The rows of the whole text ahead of this one."""
        rows = WHOLE.split("\n")
        return "\n".join(rows[:rows.index(row)]) + "\n"

    def broken(self, row, others):
        """Each of the others is refused where the row stands, with a good row behind it too."""
        head = self.ahead(row)
        at = head.count("\n")
        self.assertEqual(len(read_hall(head + row).deeds()), at)
        for other in others:
            self.refused(at, read_hall, head + other)
            self.refused(at, read_hall, head + other + "\nfold first")
            self.refused(at, read_hall, head + other + "\n")

    def test_words(self):
        self.broken("fold t", [
            "fold", "fold ", "fold  t", "fold t ", " fold t", "Fold t", "folds t", "fol t", "foldt", "fold t t",
            "fold-t", "back", "again", "back t", "twin t", "deeds", "hall", "-",
        ])

    def test_deeds_with_a_name_alone(self):
        self.broken("say first", ["say", "say ", "say  first", "say first ", "say first 0", "say First", "say firs",
                                  "say firstfirst", "say 0", "say poems"])
        self.broken("hush t", ["hush", "hush t 0", "hush  t", "hush t ", "hush b", "hush T"])
        self.broken("close first", ["close", "close first 2", "close  first", "close first ", "close t", "close x"])
        self.broken("waive first", ["waive", "waive first 1", "waive  first", "waive first ", "waive t"])

    def test_shelve(self):
        self.broken("shelve b a.b;a.c;d", [
            "shelve", "shelve b", "shelve b ", "shelve  b a", "shelve b  a", "shelve b a ", "shelve b a b",
            "shelve b a;b c", "shelve b .a", "shelve b a.", "shelve b a..b", "shelve b ;a", "shelve b a;",
            "shelve b a;;b", "shelve b .", "shelve b ;", "shelve b -", "shelve b A", "shelve b abcd",
            "shelve b a,b", "shelve b a/b", "shelve b 0", "shelve b a.a.a.a.a.a.a.a.a", "shelve b a;a",
            "shelve b a;a.b", "shelve b a.b;c;a", "shelve B a", "shelve 0 a", "shelve abcdefghi a",
            "shelve poems a", "shelve b;a", "shelve b a: b",
            "shelve b " + ";".join([LETTERS[n // 26] + LETTERS[n % 26] for n in range(41)]),
        ])

    def test_lay(self):
        self.broken("lay t b 0,2 -/1/-", [
            "lay", "lay t", "lay t b", "lay t b 0", "lay t b 0 1 2", "lay t b 0  1", "lay  t b 0 1", "lay t b 0 1 ",
            "lay t b 0 ", "lay t b  1", "lay t b ,0 1", "lay t b 0, 1", "lay t b 0,,2 1", "lay t b /0 1",
            "lay t b 0/ 1", "lay t b 0//2 1", "lay t b 00 1", "lay t b 0 01", "lay t b 002 1", "lay t b -0 1",
            "lay t b 0 -1", "lay t b 0 +1", "lay t b -,0 1", "lay t b 0,- 1", "lay t b -- 1", "lay t b 0/-- 1",
            "lay t b a 1", "lay t b 0.2 1", "lay t b 0;2 1", "lay t b 0 3", "lay t b 0 40", "lay t b 0 100",
            "lay t b 0,0 1", "lay t b 0 0", "lay t b 0/-/-/- 1", "lay t b - 1", "lay t b 0 -", "lay t b 0 -/-",
            "lay t b - -", "lay first b 0 1", "lay t x 0 1", "lay t B 0 1", "lay T b 0 1", "lay t t 0 1",
            "lay tttttttttt b 0 1", "lay t b [0] 1",
        ])

    def test_read_and_strike(self):
        numbers = ["", " ", " 2", "2 ", "02", "00", "002", "100", "006", "-1", "-0", "+2", "a", "6", "39", "40",
                   "99", "2 2", "2,2", "2.0", "1e1", "-", "1_0"]
        self.broken("read first 2", ["read", "read first"] + ["read first " + number for number in numbers])
        self.broken("strike first 2", ["strike", "strike first"] + ["strike first " + number for number in numbers])
        self.broken("read first 2", ["read t2", "read x 2", "read First 2", "read 2 first", "read  first 2"])
        self.broken("strike first 2", ["strike first 0", "strike first 5", "strike x 2", "strike t 2"])

    def test_touch(self):
        self.broken("touch first 0 1 1 0 1", [
            "touch first", "touch first 0", "touch first 0 1 1 0", "touch first 0 1 1 0 1 1",
            "touch first 0  1 1 0 1", "touch first 0 1 1 0 1 ", "touch first 0 1,1,0,1",
            "touch first 0 (1, 1, 0, 1)", "touch first 00 1 1 0 1", "touch first 0 01 1 0 1",
            "touch first 0 1 1 0 01", "touch first -1 1 1 0 1", "touch first 0 1 1 -1 1", "touch first 0 1 1 0 100",
            "touch first 2 1 1 0 1", "touch first 0 2 1 0 1", "touch first 0 1 2 0 1", "touch first 0 1 0 0 0",
            "touch first 0 1 1 1 0", "touch first 0 1 1 0 2", "touch t 0 0 0 0 0", "touch x 0 0 0 0 0",
            "touch first a 1 1 0 1", "touch first 0 1 1 0 -",
        ])

    def test_send(self):
        self.broken("send first 0 1", [
            "send first", "send first 0", "send first 0 1 1", "send first  0 1", "send first 0  1",
            "send first 0 1 ", "send first 00 1", "send first 0 01", "send first -1 1", "send first 0 -1",
            "send first 0 001", "send first 0 2", "send first 6 1", "send first 1 1", "send first 2 1",
            "send first 3 1", "send t 0 0", "send x 0 1", "send first 0 -",
        ])

    def test_move(self):
        self.broken("move first 0 4 0 2", [
            "move first", "move first 0 4 0", "move first 0 4 0 2 0", "move first 0  4 0 2", "move first 0 4 0 2 ",
            "move first 00 4 0 2", "move first 0 04 0 2", "move first 0 4 0 02", "move first 0 4 0 002",
            "move first -1 4 0 2", "move first 0 4 0 -1", "move first 2 4 0 2", "move first 0 6 0 2",
            "move first 1 4 0 0", "move first 0 3 0 0", "move first 0 4 2 0", "move first 0 4 0 3",
            "move first 0 4 0 100", "move x 0 4 0 2", "move first 0 4 0 -",
        ])

    def test_names_in_their_places(self):
        text = "hall\nshelve abcdefgh a;b\nlay abcdefgh abcdefgh 0 1\nread abcdefgh 1\nfold abcdefgh"
        self.assertEqual(hall_text(read_hall(text)), text)

    def test_eight_of_each_and_a_ninth(self):
        shelves = [f"shelve {name} a;b" for name in "abcdefgh"]
        lays = [f"lay {name} a 0 1" for name in "abcdefgh"]
        text = "\n".join(["hall"] + shelves + lays)
        self.assertEqual(hall_text(read_hall(text)), text)
        self.refused(17, read_hall, text + "\nlay i a 0 1")
        self.refused(17, read_hall, text + "\nshelve i a")
        self.refused(9, read_hall, "\n".join(["hall"] + shelves + ["shelve i a"] + lays))

    def test_the_first_wrong_row_goes(self):
        head = "hall\nshelve b a;b\nlay t b 0 1\n"
        self.refused(3, read_hall, head + "say t\nread t 00\n")
        self.refused(3, read_hall, head + "read t 00\nsay t\n")
        self.refused(4, read_hall, head + "read t 0\nread t 1\nnothing")

    def test_a_deed_is_refused_by_what_stands_there(self):
        head = "hall\nshelve b a;b\nlay t b 0 1"
        over = head + "\nread t 0\nsay t\nclose t"
        self.assertEqual(read_hall(over).table("t").winner(), 0)
        for row in ("read t 1", "strike t 0", "move t 1 1 0 0", "say t", "close t", "waive t", "send t 1 0"):
            self.refused(6, read_hall, over + "\n" + row)
        self.refused(4, read_hall, head + "\nfold t\nread t 0")
        self.assertEqual(read_hall(head + "\nfold t\nlay t b 1 0").table("t").deal().rows(0), [[1]])

    def check(self, text):
        """Whether the text is read, by the words of points 18 to 21."""
        row, place = wrong_row(text)
        if row is None:
            some = read_hall(text)
            self.assertEqual(told(some), place.told(), repr(text))
            self.assertEqual(hall_text(some), text)
        else:
            self.refused(row, read_hall, text)
        return row is None

    def test_each_text_with_a_sign_changed(self):
        short = "hall\nshelve b a.b;a.c;d\nlay t b 0,2 -/1\nread t 2\ntouch t 1 0 0 0 1\nsay t\nclose t\nfold t"
        seen = {self.check(text) for text in changed(short, "abtA012- .,;/\n")}
        self.assertEqual(seen, {True, False})

    def test_the_whole_text_with_a_sign_changed(self):
        texts = list(changed(WHOLE, "a0 \n-"))
        seen = {self.check(text) for text in Random(4).sample(texts, 1500)}
        self.assertEqual(seen, {True, False})

    def test_great_texts_are_told_soon(self):
        begun = perf_counter()
        head = "hall\nshelve b a;b;c\nlay t b 0,2 1"
        moves = head + "\nmove t 0 0 0 1" * 2600
        touches = head + "\nread t 0" + "\ntouch t 0 0 0 0 0" * 2200
        for text in (moves, touches):
            self.assertLessEqual(len(text), 40000)
            self.assertEqual(hall_text(read_hall(text)), text)
        for row, text in ((0, "hall " * 8000), (1, "hall" + "\n" * 39000), (1, "hall\nsay " + "a" * 39000),
                          (1, "hall\nshelve b " + "a;" * 19000), (3, head + "\nread t " + "1" * 39000),
                          (2, "hall\nshelve b a;b\nlay t b " + "0," * 19000),
                          (1, "hall\nlay t b " + "-/" * 9000 + " 1")):
            self.refused(row, read_hall, text)
        self.assertLess(perf_counter() - begun, 20)

    def test_every_refusal_is_a_bad_text(self):
        for text in changed("hall\nshelve b a;b\nlay t b 0 1\nread t 0", "~!#$&'()*+<=>?@[]^_`{|}:\"A9 \n"):
            try:
                read_hall(text)
            except SnatchError as error:
                self.assertIs(type(error), BadText)


if __name__ == "__main__":
    unittest.main()
