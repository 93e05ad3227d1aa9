"""Circles of peers on the ring: who keeps a place, which stretch, and which fingers."""

from peersmeet.errors import NoCircle, NoList, NoPeers, NotThere, Twice
from peersmeet.marks import MOST_COPIES, MOST_PEERS, RING
from peersmeet.marks import is_list, need_name, need_place, need_whole, place_behind, way_on

FINGER_WAYS = (1, 2, 4, 8, 16, 32, 64, 128)


def need_peers(peers):
    """Refuse what is no list of peers, each of a name of its own."""
    if not is_list(peers) or len(peers) > MOST_PEERS:
        raise NoPeers(peers)
    ahead = []
    for peer in peers:
        if not isinstance(peer, tuple) or len(peer) != 2:
            raise NoPeers(peer)
        need_name(peer[0])
        need_place(peer[1])
        if peer[0] in ahead:
            raise Twice(peer[0])
        ahead.append(peer[0])


def in_order(peers):
    """A list of peers (name, place) by their places, those of one place by their names."""
    return sorted(peers, key=lambda peer: (peer[1], peer[0]))


class Circle:
    """Some peers, each a name and its place, in their order round the ring."""

    def __init__(self, peers):
        need_peers(peers)
        self._peers = in_order(peers)
        self._places = dict(self._peers)

    def __len__(self):
        return len(self._peers)

    def __eq__(self, other):
        return isinstance(other, Circle) and self._peers == other._peers

    def __str__(self):
        return ", ".join([f"{name} {place}" for name, place in self._peers])

    def __repr__(self):
        return f"Circle({self._peers!r})"

    def peers(self):
        """All peers, a list of (name, place) in order."""
        return list(self._peers)

    def names(self):
        """All names, a list in the order of the peers."""
        return [name for name, _ in self._peers]

    def has(self, thing):
        """Whether any thing is a name of the circle."""
        return isinstance(thing, str) and thing in self._places

    def place(self, name):
        """The place of a name."""
        self._need_name(name)
        return self._places[name]

    def without(self, names):
        """The circle without those of its names that stand in a list of any things."""
        if not is_list(names):
            raise NoList(names)
        return Circle([peer for peer in self._peers if peer[0] not in names])

    def next_of(self, name):
        """The name behind a name, round."""
        self._need_name(name)
        names = self.names()
        return names[(names.index(name) + 1) % len(names)]

    def before(self, name):
        """The name ahead of a name, round."""
        self._need_name(name)
        names = self.names()
        return names[names.index(name) - 1]

    def keeper(self, place):
        """The name that keeps a place, or None in a circle without peers."""
        keepers = self.keepers(place, 1)
        return keepers[0] if keepers else None

    def keepers(self, place, copies):
        """The names that keep a place, as many as copies, in the order round."""
        need_place(place)
        need_whole(copies, 1, MOST_COPIES)
        at_or_behind = [name for name, own in self._peers if own >= place]
        ahead = [name for name, own in self._peers if own < place]
        return (at_or_behind + ahead)[:copies]

    def stretch(self, name):
        """The places that a name keeps: the first of them, and how many they are."""
        own = self.place(name)
        if self.keeper(own) != name:
            return (place_behind(own, 1), 0)
        many = way_on(self.place(self.before(name)), own)
        # From its own place to itself there is no way; who has no other ahead keeps the whole ring.
        if many == 0:
            many = RING
        return (place_behind(own, 1 - many), many)

    def fingers(self, name):
        """The keepers of the eight places that lie ever twice as far behind the name's own."""
        own = self.place(name)
        return [self.keeper(place_behind(own, way)) for way in FINGER_WAYS]

    def _need_name(self, name):
        """Refuse what is no name of the circle."""
        if not self.has(name):
            raise NotThere(name)


def need_circle(thing):
    """Refuse what is no circle."""
    if not isinstance(thing, Circle):
        raise NoCircle(thing)


def need_name_of(circle, name):
    """Refuse what is no circle, and what is no name of it."""
    need_circle(circle)
    if not circle.has(name):
        raise NotThere(name)


def others_round(circle, name):
    """All names of a circle but one, a list round from the one behind it."""
    names = circle.names()
    at = names.index(name)
    return names[at + 1:] + names[:at]
