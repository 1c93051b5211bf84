"""What verses share, their rivals, deciding beginnings and hurdles."""

from kimariji.books import check_verse, rising


def shared(book, one, other):
    """The greatest size that two verses share."""
    size = 0
    for syllable, facing in zip(book.verse(one), book.verse(other)):
        if syllable != facing:
            return size
        size += 1
    return size


def rivals(book, unread, verse, size):
    """The unread verses, but the verse itself, that share the size with it, rising."""
    check_verse(book, verse)
    others = [number for number in rising(book, unread) if number != verse]
    return [number for number in others if shared(book, verse, number) >= size]


def deciding(book, unread, verse):
    """The shortest beginning of the verse that begins no other unread verse."""
    size = 0
    while rivals(book, unread, verse, size):
        size += 1
    return book.verse(verse)[:size]


def hurdles(book, unread, verse):
    """The rivals of the verse by each size below that of its deciding beginning."""
    sizes = len(deciding(book, unread, verse))
    return [rivals(book, unread, verse, size) for size in range(sizes)]
