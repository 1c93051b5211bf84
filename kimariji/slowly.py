"""Slow plans: one sweep at each beginning, and the least wait of them all."""

from kimariji.plans import starts


def slow(deal, unread):
    """The least wait of all slow plans, and a slow plan that has it."""
    groups = [(verses, len(beginning)) for beginning, verses in starts(deal, unread)]
    return together([quickest(deal, verses, size) for verses, size in groups])


def together(answers):
    """One pair (wait, plan) of several that are about other verses."""
    pairs = [pair for answer in answers for pair in answer[1]]
    return (sum([answer[0] for answer in answers]), pairs)


def quickest(deal, verses, size):
    """The least wait for verses not taken yet that lie on one field and share this size, and its pairs."""
    rows = sorted({deal.where(verse)[1] for verse in verses})
    # A sweep may touch a whole row of the field without a fault, so each choice is one of a row. One row
    # less is left each time, so that the choices end within as many syllables as a field has rows.
    return min([row_first(deal, verses, size, row) for row in rows], key=lambda answer: answer[0])


def row_first(deal, verses, size, row):
    """The least wait, and its pairs, where the cards of this row are taken at this size."""
    taken = [verse for verse in verses if deal.where(verse)[1] == row]
    left = [verse for verse in verses if verse not in taken]
    beginning = tuple(deal.book().verse(taken[0])[:size])
    now = (size * len(taken), [(beginning, sweep) for sweep in deal.cover(taken)])
    return together([now] + [quickest(deal, group, size + 1) for group in parted(deal, left, size)])


def parted(deal, verses, size):
    """Verses that share this size, in groups that share one syllable more."""
    groups = {}
    for verse in verses:
        syllable = deal.book().verse(verse)[size]
        groups[syllable] = groups.get(syllable, []) + [verse]
    return list(groups.values())
