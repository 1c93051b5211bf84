"""Tests of the package as a whole: its interface, and the rules that its text must keep to."""

import ast
import builtins
import inspect
import re
import unittest
from pathlib import Path

from kimariji import books, chances, deals, hall, hearing, minutes, parts, plans, rivals, slowly, table

FOLDER = Path(__file__).resolve().parent.parent / "kimariji"
FILES = sorted(FOLDER.glob("**/*.py"))

ARGUMENTS = {
    parts.part: ["top", "bottom"],
    parts.plus: ["one", "other"],
    parts.minus: ["one", "other"],
    parts.less: ["one", "other"],
    books.Book: ["verses"],
    books.Book.many: ["self"],
    books.Book.verse: ["self", "number"],
    books.Book.verses: ["self"],
    books.meeting: ["book", "unread", "heard"],
    books.goings: ["book", "unread", "heard"],
    rivals.shared: ["book", "one", "other"],
    rivals.rivals: ["book", "unread", "verse", "size"],
    rivals.deciding: ["book", "unread", "verse"],
    rivals.hurdles: ["book", "unread", "verse"],
    deals.Deal: ["book", "zero", "one"],
    deals.Deal.book: ["self"],
    deals.Deal.rows: ["self", "field"],
    deals.Deal.cards: ["self", "field"],
    deals.Deal.where: ["self", "verse"],
    deals.Deal.swept: ["self", "sweep"],
    deals.Deal.cover: ["self", "verses"],
    deals.Deal.without: ["self", "verse"],
    deals.Deal.sent: ["self", "verse", "row"],
    deals.Deal.moved: ["self", "verse", "row", "place"],
    hearing.is_fault: ["deal", "verse", "sweep"],
    hearing.is_taken: ["deal", "verse", "sweep"],
    hearing.faultless: ["deal", "unread", "heard"],
    hearing.witness: ["deal", "unread", "heard", "sweep"],
    hearing.sure: ["deal", "unread", "heard"],
    hearing.moment: ["deal", "unread", "verse"],
    plans.judged: ["deal", "unread", "plan"],
    plans.taken_at: ["deal", "unread", "plan", "verse"],
    plans.earliest: ["deal", "unread"],
    plans.joined: ["deal", "unread", "one", "other"],
    slowly.slow: ["deal", "unread"],
    chances.decided_by: ["book", "unread", "verse", "size"],
    chances.mean_decided: ["book", "unread", "verse"],
    chances.safe_by: ["deal", "unread", "verse", "size"],
    chances.mean_safe: ["deal", "unread", "verse"],
    chances.waiting: ["deal", "unread"],
    chances.best_gift: ["deal", "unread", "field"],
    table.Table: ["deal"],
    table.Table.read: ["self", "verse"],
    table.Table.touch: ["self", "side", "sweep"],
    table.Table.send: ["self", "verse", "row"],
    table.Table.move: ["self", "side", "verse", "row", "place"],
    table.Table.strike: ["self", "verse"],
    table.Table.witness: ["self", "sweep"],
    table.Table.deciding: ["self", "verse"],
    hall.Hall: [],
    hall.Hall.shelve: ["self", "name", "verses"],
    hall.Hall.lay: ["self", "name", "book", "zero", "one"],
    hall.Hall.read: ["self", "name", "verse"],
    hall.Hall.touch: ["self", "name", "side", "sweep"],
    hall.Hall.send: ["self", "name", "verse", "row"],
    hall.Hall.move: ["self", "name", "side", "verse", "row", "place"],
    hall.Hall.strike: ["self", "name", "verse"],
    minutes.book_text: ["book"],
    minutes.read_book: ["text"],
    minutes.hall_text: ["hall"],
    minutes.read_hall: ["text"],
}
ARGUMENTS.update({getattr(table.Table, name): ["self"] for name in (
    "say close hush waive deal unread under heard touches readings score faults due winner free plan twin"
).split()})
ARGUMENTS.update({getattr(hall.Hall, name): ["self", "name"] for name in (
    "say close hush waive fold book table"
).split()})
ARGUMENTS.update({getattr(hall.Hall, name): ["self"] for name in "back again deeds books tables twin".split()})
METHODS = {
    books.Book: ["many", "verse", "verses"],
    deals.Deal: ["book", "rows", "cards", "where", "swept", "cover", "without", "sent", "moved"],
    table.Table: (
        "read say touch close hush send waive move strike deal unread under heard touches readings score faults due "
        "winner free witness deciding plan twin"
    ).split(),
    hall.Hall: (
        "shelve lay read say touch close hush send waive move strike fold back again deeds books tables book table twin"
    ).split(),
}

# L8, and `super` of L5; nothing among them tells the time, throws a die or reads a file.
BUILTINS = (
    "len range enumerate zip min max sum abs sorted reversed int str bool bytes list tuple dict set frozenset "
    "isinstance ord repr any all divmod iter next property staticmethod classmethod super Exception ValueError "
    "TypeError KeyError IndexError LookupError ZeroDivisionError ArithmeticError OverflowError RuntimeError "
    "NotImplementedError AttributeError StopIteration NotImplemented"
).split()
BARRED_WORDS = (
    "type typing typing_extensions enum Enum IntEnum StrEnum Flag IntFlag Generic Protocol ABC ABCMeta namedtuple "
    "NamedTuple TypedDict TYPE_CHECKING abstractmethod"
).split()


class TestInterface(unittest.TestCase):
    def test_arguments(self):
        for asked, names in ARGUMENTS.items():
            self.assertEqual(list(inspect.signature(asked).parameters), names, asked)

    def test_methods_stand_in_the_class_itself(self):
        for owner, names in METHODS.items():
            for name in names:
                self.assertIn(name, vars(owner))


class TestText(unittest.TestCase):
    def test_the_folder_has_plain_files_alone(self):
        self.assertTrue(FILES)
        for path in FOLDER.iterdir():
            if path.name != "__pycache__":
                self.assertRegex(path.name, r"\A(__init__|__main__|[a-z][a-z0-9_]*)\.py\Z")

    def test_sizes_and_signs(self):
        for path in FILES:
            text = path.read_text(encoding="utf-8")
            self.assertLessEqual(len(text.splitlines()), 400, path)
            self.assertLessEqual(max([len(line) for line in text.splitlines()], default=0), 120, path)
            self.assertRegex(text, r"\A[ -~\n]*\Z", path)
            for node in ast.walk(ast.parse(text)):
                if isinstance(node, ast.FunctionDef):
                    self.assertLessEqual(node.end_lineno - node.lineno + 1, 40, (path, node.name))

    def test_words(self):
        for path in FILES:
            words = re.findall(r"\w+", path.read_text())
            self.assertEqual([word for word in words if word in BARRED_WORDS], [], path)

    def test_imports_are_of_the_package_alone(self):
        for path in FILES:
            for node in ast.walk(ast.parse(path.read_text())):
                self.assertNotIsInstance(node, ast.Import, path)
                if isinstance(node, ast.ImportFrom):
                    self.assertEqual(node.level, 0, path)
                    self.assertTrue(node.module.startswith("kimariji."), (path, node.module))

    def test_builtins(self):
        for path in FILES:
            for node in ast.walk(ast.parse(path.read_text())):
                if isinstance(node, ast.Name) and hasattr(builtins, node.id):
                    self.assertIn(node.id, BUILTINS, path)

    def test_no_name_is_a_method_and_an_attribute(self):
        methods, attributes = set(), set()
        for path in FILES:
            for node in ast.walk(ast.parse(path.read_text())):
                if isinstance(node, ast.ClassDef):
                    methods |= {row.name for row in node.body if isinstance(row, ast.FunctionDef)}
                if isinstance(node, ast.Attribute) and isinstance(node.ctx, ast.Store):
                    attributes.add(node.attr)
        self.assertTrue(methods and attributes)
        self.assertEqual(methods & attributes, set())

    def test_local_names_are_no_imports_classes_or_builtins(self):
        for path in FILES:
            tree = ast.parse(path.read_text())
            imports = [name.name for row in tree.body if isinstance(row, ast.ImportFrom) for name in row.names]
            classes = [row.name for row in tree.body if isinstance(row, ast.ClassDef)]
            for node in ast.walk(tree):
                bound = [node.id] if isinstance(node, ast.Name) and isinstance(node.ctx, ast.Store) else []
                bound += [node.arg] if isinstance(node, ast.arg) else []
                for name in bound:
                    self.assertNotIn(name, imports + classes + dir(builtins), path)
                    self.assertFalse(name.startswith("_"), (path, name))

    def test_values_are_whole(self):
        for path in FILES:
            for node in ast.walk(ast.parse(path.read_text())):
                self.assertNotIsInstance(node, ast.Div, path)
                if isinstance(node, ast.Constant):
                    self.assertNotIsInstance(node.value, (float, complex), path)


if __name__ == "__main__":
    unittest.main()
