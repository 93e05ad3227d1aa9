"""Shares and loads of the peers of a circle, fair places, and what is handed on between two circles."""

from peersmeet.circles import need_circle, need_name_of
from peersmeet.errors import NoNumber
from peersmeet.marks import RING, is_whole, place_behind

# The greatest number in a factor.
MOST_FACTOR = 999


def is_factor(thing):
    """Whether a thing is a factor: (top, bottom), the top no less than the bottom."""
    if not isinstance(thing, tuple) or len(thing) != 2:
        return False
    if not all([is_whole(part, 1, MOST_FACTOR) for part in thing]):
        return False
    return thing[0] >= thing[1]


def keepers_of_all(circle, copies):
    """The keepers of each place of the ring, a list of lists of names; refused are copies that are none."""
    return [circle.keepers(place, copies) for place in range(RING)]


def share(circle, name):
    """Of how many places a peer is the keeper."""
    need_name_of(circle, name)
    _, many = circle.stretch(name)
    return many


def load(circle, name, *, copies=1):
    """Of how many places a peer is one of the keepers."""
    need_name_of(circle, name)
    return len([keepers for keepers in keepers_of_all(circle, copies) if name in keepers])


def loads(circle, *, copies=1):
    """The loads of all peers, a list of (name, load) in their order."""
    need_circle(circle)
    rows = keepers_of_all(circle, copies)
    return [(name, len([keepers for keepers in rows if name in keepers])) for name in circle.names()]


def keeps_within(circle, factor, *, copies=1):
    """Whether no load of a circle is greater than another one by more than a factor."""
    need_circle(circle)
    if not is_factor(factor):
        raise NoNumber(factor)
    many = [one for _, one in loads(circle, copies=copies)]
    top, bottom = factor
    return len(many) == 0 or bottom * max(many) <= top * min(many)


def fair_place(circle):
    """The place for one more that takes half of the greatest share, of the first peer that has it."""
    need_circle(circle)
    names = circle.names()
    if not names:
        return RING - 1
    # Of several greatest the first is found.
    first, many = circle.stretch(max(names, key=lambda name: share(circle, name)))
    return place_behind(first, many // 2 - 1)


def lacking_in(names, others):
    """Those of the names that are none of the others, a rising tuple."""
    return tuple(sorted([name for name in names if name not in others]))


def handed(one, other, *, copies=1):
    """What the other circle gains and loses of the one: a list of rows (first, many, gained, lost), rising."""
    need_circle(one)
    need_circle(other)
    changes = [
        (lacking_in(behind, ahead), lacking_in(ahead, behind))
        for ahead, behind in zip(keepers_of_all(one, copies), keepers_of_all(other, copies))
    ]
    # Ahead of the place 0 comes the last one, so that a row may go round.
    firsts = [place for place in range(RING) if changes[place] != changes[place - 1]]
    if not firsts:
        firsts = [0]
    ends = firsts[1:] + [firsts[0] + RING]
    rows = []
    for first, end in zip(firsts, ends):
        gained, lost = changes[first]
        if gained or lost:
            rows.append((first, end - first, gained, lost))
    return rows
