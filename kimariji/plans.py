"""Plans: lists of pairs (beginning, sweep), judged, followed, made and laid together."""

from kimariji.books import begins, check_verse, meeting, rising
from kimariji.deals import check_sweep
from kimariji.errors import BadPlan, NoCard, NoField
from kimariji.hearing import is_taken, moment, strays


def coming_behind(deal, unread, beginning):
    """The verses that may come behind a beginning, rising."""
    return meeting(deal.book(), unread, list(beginning))


def is_there(deal, sweep):
    """Whether there is such a sweep."""
    try:
        check_sweep(deal, sweep)
    except (NoField, NoCard):
        return False
    return True


def check_plan(deal, unread, plan):
    """Refuse a plan that has a pair that is not good."""
    # An empty plan asks for no verse, and a strange number is refused with it all the same.
    rising(deal.book(), unread)
    for place, (beginning, sweep) in enumerate(plan):
        if not coming_behind(deal, unread, beginning) or not is_there(deal, sweep):
            raise BadPlan(place)


def judged(deal, unread, plan):
    """None where the plan is faultless, else (place, verse) of the first pair that is not."""
    check_plan(deal, unread, plan)
    for place, (beginning, sweep) in enumerate(plan):
        wronged = strays(deal, coming_behind(deal, unread, beginning), sweep[0])
        if wronged:
            return (place, wronged[0])
    return None


def taken_at(deal, unread, plan, verse):
    """The size at which the plan takes the verse, or None where it never does."""
    check_verse(deal.book(), verse)
    check_plan(deal, unread, plan)
    syllables = deal.book().verse(verse)
    heard = [(beginning, sweep) for beginning, sweep in plan if begins(list(beginning), syllables)]
    return min([len(beginning) for beginning, sweep in heard if is_taken(deal, verse, sweep)], default=None)


def starts(deal, unread):
    """The shortest beginnings behind which all that may come lies on one field, with what may come."""
    book = deal.book()
    found = {}
    for verse in rising(book, unread):
        if deal.where(verse) is not None:
            beginning = tuple(book.verse(verse)[:moment(deal, unread, verse)])
            # Whatever else may come behind it has the same moment, so all of it is gathered here.
            found[beginning] = found.get(beginning, []) + [verse]
    return list(found.items())


def earliest(deal, unread):
    """The plan that takes each unread verse as early as a faultless plan can."""
    return [(beginning, sweep) for beginning, verses in starts(deal, unread) for sweep in deal.cover(verses)]


def joined(deal, unread, one, other):
    """The pairs of the first plan, and then those of the second that do not stand in the first."""
    check_plan(deal, unread, one)
    check_plan(deal, unread, other)
    return list(one) + [pair for pair in other if pair not in one]
