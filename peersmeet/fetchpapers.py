"""Papers of fetches: whether any thing is the rows of a fetch that has ended."""

from peersmeet.errors import NotThere
from peersmeet.fetches import Fetch
from peersmeet.marks import is_list, is_number


def takes_row(fetch, row):
    """Let a fetch take the answer of a row; told is whether the row is told just so."""
    if not isinstance(row, tuple) or len(row) != 5:
        return False
    turn, name, at, answer, word = row
    if not is_number(turn) or turn != fetch.turns():
        return False
    try:
        return fetch.take(name, at, answer) == word
    except NotThere:
        return False


def walked_fetch(card, claims, rows, had, seen):
    """The fetch made so whose rows any thing is, where it has ended; else None."""
    fetch = Fetch(card, claims, had=had, seen=seen)
    if not is_list(rows):
        return None
    for row in rows:
        if not takes_row(fetch, row):
            return None
    return fetch if fetch.ended() else None


def shows_fetch(card, claims, rows, *, had=None, seen=None):
    """Whether any thing is a list of the rows of a fetch made so that has ended."""
    return walked_fetch(card, claims, rows, had, seen) is not None
