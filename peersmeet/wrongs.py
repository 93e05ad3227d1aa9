"""Wrongs that were seen: of each name how many, until they are forgotten."""

from peersmeet.marks import is_name, need_name

# A wrong is forgotten where none is seen of the name for so many turns.
KEPT_TURNS = 5
# Whoever did so many wrongs is passed over.
MOST_WRONGS = 3


class Wrongs:
    """Of each name of which wrongs were seen their count, and the turns that are left to them."""

    def __init__(self):
        self._counts = {}

    def __len__(self):
        return len(self._counts)

    def __eq__(self, other):
        return isinstance(other, Wrongs) and self._counts == other._counts

    def __str__(self):
        return "; ".join([f"{name} {count} {left}" for name, (count, left) in self.told().items()])

    def seen(self, name):
        """See a wrong of a name; told is its count."""
        count = self.count_of(name) + 1
        self._counts[name] = (count, KEPT_TURNS)
        return count

    def turn(self):
        """Let a turn pass; told are the names whose counts are forgotten, in order."""
        told = self.told()
        self._counts = {name: (count, left - 1) for name, (count, left) in told.items() if left > 1}
        return [name for name in told if name not in self._counts]

    def passes(self, name):
        """Whether any thing is a name that is passed over."""
        return is_name(name) and self.count_of(name) >= MOST_WRONGS

    def count_of(self, name):
        """How many wrongs of a name are counted."""
        need_name(name)
        return self._counts[name][0] if name in self._counts else 0

    def told(self):
        """All names with counts, a dict in order to (count, turns left)."""
        return {name: self._counts[name] for name in sorted(self._counts)}

    def copied(self):
        """The same wrongs, which go their own way."""
        wrongs = Wrongs()
        wrongs._counts = dict(self._counts)
        return wrongs
