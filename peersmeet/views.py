"""Views: what a peer has heard of each peer, itself too."""

from peersmeet.circles import in_order
from peersmeet.errors import NoNumber, NoView, NoWord, NotThere, Twice
from peersmeet.marks import is_number, need_name, need_place

HERE = "here"
SILENT = "silent"
GONE = "gone"
# In the order in which they are compared.
WORDS = ("here", "silent", "gone")


def is_word(thing):
    """Whether a thing is a word that is told of a peer."""
    return thing in WORDS


def need_peer_number(thing):
    """Refuse what is no whole number from 1 on."""
    if not is_number(thing) or thing < 1:
        raise NoNumber(thing)


def rank(told):
    """What orders things (place, number, word) that are told of one name."""
    place, number, word = told
    return (number, WORDS.index(word), place)


def later(had, told):
    """Of two things (place, number, word) of one name the one that stands, the first of equal ones."""
    return told if rank(had) < rank(told) else had


def of_itself(had, told):
    """What a peer has of its own name behind what is told of it."""
    place, number, word = had
    told_place, told_number, told_word = told
    if told_number < number:
        return had
    if told_place != place or word == HERE and told_word != HERE:
        return (place, told_number + 1, word)
    return later(had, told)


class View:
    """Of each name that was heard of its place, its number and a word."""

    def __init__(self, own, place, *, number=1):
        need_name(own)
        need_place(place)
        need_peer_number(number)
        self._own = own
        self._known = {own: (place, number, HERE)}

    def __len__(self):
        return len(self._known)

    def __eq__(self, other):
        return isinstance(other, View) and self._known == other._known

    def __str__(self):
        return "; ".join([
            f"{name} {place} {number} {word}"
            for name, (place, number, word) in self.told().items()
        ])

    def told(self):
        """All that the view has, a dict from the names in order to (place, number, word)."""
        return {name: self._known[name] for name in self.names()}

    def names(self):
        """All names, a list in order."""
        return sorted(self._known)

    def own(self):
        """The name of the view's own peer."""
        return self._own

    def own_number(self):
        """The number of the view's own peer."""
        return self._known[self._own][1]

    def here(self):
        """Who is here, a list of (name, place) in the order of peers."""
        return in_order([(name, told[0]) for name, told in self._known.items() if told[2] == HERE])

    def hear(self, name, place, number, word):
        """Hear of a name its place, number and word; told is whether the view changed."""
        need_name(name)
        need_place(place)
        need_peer_number(number)
        if not is_word(word):
            raise NoWord(word)
        had = self._known.get(name)
        told = (place, number, word)
        if name == self._own:
            told = of_itself(had, told)
        elif had is not None:
            told = later(had, told)
        self._known[name] = told
        return told != had

    def silence(self, name):
        """Let another name of the view be silent where it is here."""
        if not isinstance(name, str) or name not in self._known or name == self._own:
            raise NotThere(name)
        place, number, word = self._known[name]
        if word == HERE:
            self._known[name] = (place, number, SILENT)

    def leave(self):
        """Let the own name be gone."""
        place, number, _ = self._known[self._own]
        self._known[self._own] = (place, number, GONE)

    def come_back(self):
        """Let the own name be here with the next number."""
        place, number, _ = self._known[self._own]
        self._known[self._own] = (place, number + 1, HERE)

    def join(self, other):
        """Hear all that another view tells; told is whether this one changed."""
        need_view(other)
        changed = False
        told = other.told()
        for name in told:
            place, number, word = told[name]
            if self.hear(name, place, number, word):
                changed = True
        return changed

    def copied(self):
        """A view that has the same, and goes its own way."""
        view = View(self._own, self._known[self._own][0])
        view._known = dict(self._known)
        return view


def need_view(thing):
    """Refuse what is no view."""
    if not isinstance(thing, View):
        raise NoView(thing)


def talk(one, other):
    """Let two views hear each other until they are equal; told is in how many rounds one changed."""
    need_view(one)
    need_view(other)
    if one.own() == other.own():
        raise Twice(other.own())
    rounds = 0
    while joined_both(one, other):
        rounds += 1
    return rounds


def joined_both(one, other):
    """Let the first view join the second, then the second the first; told is whether one changed."""
    changed = one.join(other)
    return other.join(one) or changed
