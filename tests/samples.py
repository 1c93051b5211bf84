"""What several test files use: small books, all deals of them, and the document's words about both."""

from itertools import combinations, product

from kimariji.books import Book
from kimariji.deals import Deal

GREAT = 10 ** 5000

# Verses 1, 2 and 5 share "na ni", with verse 4 they share "na"; verse 3 has one syllable.
ROWS = [
    ["mu", "ra"],
    ["na", "ni", "wa"],
    ["na", "ni", "shi"],
    ["su"],
    ["na", "ge"],
    ["na", "ni", "ho"],
]
ALL = list(range(len(ROWS)))
STRANGE = (-1, -6, -7, 6, 7, GREAT, -GREAT)

# Verses 0, 4 and 5 lie on field 0, in two rows; 1 and 2 lie on field 1, behind an empty row; 3 lies nowhere.
ZERO = [[5, 0], [4]]
ONE = [[], [2, 1]]

# Sweeps that are not there, each with the name of its refusal.
LOST = (
    [(sweep, "NoField") for sweep in ((-1, 0, 0, 0), (2, 0, 0, 0), (0, 2, 0, 0), (0, -1, 0, 0), (GREAT, 9, 5, 1))]
    + [(sweep, "NoCard") for sweep in ((0, 0, 0, 2), (0, 0, -1, 0), (0, 0, 1, 0), (1, 0, 0, 0), (0, 1, GREAT, GREAT))]
)


def book():
    return Book(ROWS)


def deal():
    return Deal(book(), ZERO, ONE)


def subsets(numbers):
    return [list(some) for many in range(len(numbers) + 1) for some in combinations(numbers, many)]


def laid(rows, spots):
    """The deal in which each verse lies at the end of a row (field, row), or nowhere (None)."""
    fields = ([[], [], []], [[], [], []])
    for verse, spot in enumerate(spots):
        if spot is not None:
            fields[spot[0]][spot[1]].append(verse)
    return Deal(Book(rows), fields[0], fields[1])


def all_laid(rows, spots):
    """All deals whose verses lie at some of the spots."""
    return [laid(rows, chosen) for chosen in product(spots, repeat=len(rows))]


def beginnings(rows, unread):
    """Each beginning of an unread verse, once."""
    return sorted({tuple(rows[n][:size]) for n in unread for size in range(len(rows[n]) + 1)})


def coming(rows, unread, heard):
    """The verses that may come, by the words of point 4."""
    return [n for n in sorted(set(unread)) if rows[n][:len(heard)] == list(heard)]


def field_of(some, verse):
    spot = some.where(verse)
    return None if spot is None else spot[0]


def sweeps_of(some):
    """All sweeps that are there."""
    ranges = [(f, r, len(cards)) for f in (0, 1) for r, cards in enumerate(some.rows(f))]
    return [(f, r, first, last) for f, r, many in ranges for last in range(many) for first in range(last + 1)]


def has_fault(some, verse, sweep):
    """Whether a sweep is a fault, by the words of point 7."""
    return field_of(some, verse) != sweep[0]


def touches(some, verse, sweep):
    """Whether a sweep touches the verse's card, by the words of point 7."""
    spot = some.where(verse)
    return spot is not None and spot[:2] == sweep[:2] and sweep[2] <= spot[2] <= sweep[3]


def plan_takes(some, rows, plan, verse):
    """The size at which a plan takes a verse, or None, by the words of point 10."""
    sizes = [len(b) for b, s in plan if tuple(rows[verse][:len(b)]) == b and touches(some, verse, s)]
    return min(sizes) if sizes else None


def is_faultless(some, rows, unread, plan):
    return not any(has_fault(some, n, s) for b, s in plan for n in coming(rows, unread, b))
