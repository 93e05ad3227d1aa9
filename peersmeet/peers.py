"""Peers: what each has heard, keeps and saw, and the log of all its deeds that changed anything."""

from peersmeet.circles import Circle
from peersmeet.errors import Absent, Barred, NoLog, NoRow, NotThere, NoWord, PeerError
from peersmeet.marks import MOST_PIECES, is_list, is_name, is_number, is_place, is_text, is_whole
from peersmeet.stores import Store
from peersmeet.things import is_card, is_piece
from peersmeet.views import View, is_word
from peersmeet.wrongs import Wrongs

# The words with which rows of a log begin, and the kinds of their other parts.
ROW_PARTS = {
    "born": ("name", "place"),
    "heard": ("name", "place", "count", "view word"),
    "silent": ("name",),
    "left": (),
    "back": (),
    "card": ("card",),
    "piece": ("name", "at", "piece"),
    "less": ("name", "at"),
    "dropped": ("name",),
    "forgot": (),
    "word": ("said word",),
    "saw": ("name",),
    "turn": (),
}


def is_count(thing):
    """Whether a thing is a whole number from 1 on, however great."""
    return is_number(thing) and thing >= 1


def is_said(thing):
    """Whether any thing is a word that was said: (by, number, at, text)."""
    if not isinstance(thing, tuple) or len(thing) != 4:
        return False
    by, number, at, text = thing
    return is_name(by) and is_count(number) and is_count(at) and is_text(text)


def is_part(kind, thing):
    """Whether a thing is of the kind that a row has at some place."""
    if kind == "name":
        return is_name(thing)
    if kind == "place":
        return is_place(thing)
    if kind == "count":
        return is_count(thing)
    if kind == "at":
        return is_whole(thing, 0, MOST_PIECES - 1)
    if kind == "view word":
        return is_word(thing)
    if kind == "said word":
        return is_said(thing)
    if kind == "card":
        return is_card(thing)
    return is_piece(thing, True)


def is_row(thing):
    """Whether any thing is a tuple of a form in which a log has its rows."""
    if not isinstance(thing, tuple) or len(thing) == 0 or not isinstance(thing[0], str):
        return False
    if thing[0] not in ROW_PARTS:
        return False
    kinds = ROW_PARTS[thing[0]]
    if len(thing) != len(kinds) + 1:
        return False
    return all([is_part(kind, part) for kind, part in zip(kinds, thing[1:])])


def do_row(peer, row):
    """Do the deed of a row; nobody is born a second time."""
    deeds = {
        "heard": peer.hears, "silent": peer.silent, "left": peer.leaves, "back": peer.comes_back,
        "card": peer.takes, "piece": peer.takes_piece, "less": peer.lets_go, "dropped": peer.drops,
        "forgot": peer.forgets, "word": peer.hears_word, "saw": peer.saw, "turn": peer.has_turn,
    }
    word, *parts = row
    if word in deeds:
        deed = deeds[word]
        deed(*parts)


def changes_by(peer, row):
    """Do the deed of a row; told is whether it was done, and changed anything."""
    rows = len(peer)
    try:
        do_row(peer, row)
    except (PeerError, Absent, Barred):
        return False
    return len(peer) > rows


class Peer:
    """A peer: a view, a store, words that it heard, wrongs that it saw, and its log."""

    def __init__(self, name, place):
        self._view = View(name, place)
        self._name = name
        self._place = place
        self._store = Store()
        # In the order in which they were first heard.
        self._words = {}
        self._wrongs = Wrongs()
        self._log = [("born", name, place)]

    def __len__(self):
        return len(self._log)

    def __eq__(self, other):
        return isinstance(other, Peer) and self.marks() == other.marks()

    def __repr__(self):
        return f"Peer({self._name!r}, {self._place})"

    def name(self):
        """The peer's own name."""
        return self._name

    def place(self):
        """The peer's own place."""
        return self._place

    def number(self):
        """The peer's own number."""
        return self._view.own_number()

    def hears(self, name, place, number, word):
        """Hear of a name its place, number and word; told is whether the view changed."""
        changed = self._view.hear(name, place, number, word)
        if changed:
            self._log.append(("heard", name, place, number, word))
        return changed

    def known(self):
        """All that is known of peers, a list of (name, place, number, word) in the order of names."""
        return [(name, place, number, word) for name, (place, number, word) in self._view.told().items()]

    def circle(self):
        """The circle of those that are here."""
        return Circle(self._view.here())

    def word(self, name):
        """The word of a known name."""
        told = self._view.told()
        if not isinstance(name, str) or name not in told:
            raise NotThere(name)
        return told[name][2]

    def silent(self, name):
        """Let another known name be silent where it is here."""
        ahead = self._view.copied()
        self._view.silence(name)
        self._note_view(ahead, ("silent", name))

    def leaves(self):
        """Let the own name be gone."""
        ahead = self._view.copied()
        self._view.leave()
        self._note_view(ahead, ("left",))

    def comes_back(self):
        """Let the own name be here with the next number."""
        self._view.come_back()
        self._log.append(("back",))

    def takes(self, card):
        """Keep a card where none or a lesser one is kept; told is whether it is kept now."""
        taken = self._store.take_in(card)
        if taken:
            self._log.append(("card", card))
        return taken

    def takes_piece(self, key, at, piece):
        """Keep a piece that fits the card of a key; told is whether there was none of this number."""
        taken = self._store.take_piece(key, at, piece)
        if taken:
            self._log.append(("piece", key, at, piece))
        return taken

    def lets_go(self, key, at):
        """Let the piece of a key with this number go."""
        self._store.let_piece(key, at)
        self._log.append(("less", key, at))

    def drops(self, key):
        """Let the card of a key go, of which no piece is kept."""
        self._store.let_card(key)
        self._log.append(("dropped", key))

    def forgets(self):
        """Have no cards, pieces and words from now on."""
        if len(self._store) == 0 and not self._words:
            return
        self._store = Store()
        self._words = {}
        self._log.append(("forgot",))

    def card(self, key):
        """The card of a key, or None."""
        return self._store.card(key)

    def cards(self):
        """All cards, a dict by rising keys."""
        return {key: self._store.card(key) for key in self._store.keys_of()}

    def pieces(self, key):
        """The pieces of a key, a dict from rising numbers."""
        return self._store.pieces(key)

    def hears_word(self, word):
        """Hear a word that was said; told is whether it hadn't been heard."""
        if not is_said(word):
            raise NoWord(word)
        if word in self._words:
            return False
        self._words[word] = True
        self._log.append(("word", word))
        return True

    def words(self):
        """All words that were heard, a list in the order in which they were first heard."""
        return list(self._words)

    def saw(self, name):
        """See a wrong of a name; told is its count."""
        count = self._wrongs.seen(name)
        self._log.append(("saw", name))
        return count

    def has_turn(self):
        """Let a turn pass; told are the names whose wrongs are forgotten, in order."""
        if len(self._wrongs) == 0:
            return []
        self._log.append(("turn",))
        return self._wrongs.turn()

    def passes_over(self, name):
        """Whether any thing is a name that is passed over."""
        return self._wrongs.passes(name)

    def wrongs(self):
        """All names of which wrongs are counted, a dict in order to (count, turns left)."""
        return self._wrongs.told()

    def log(self):
        """All deeds that changed anything, a list of rows in order."""
        return list(self._log)

    def goes_on(self, rows):
        """Do the deeds of rows, one behind the other: all of them, or none."""
        if not is_list(rows):
            raise NoLog(rows)
        peer = self.copied()
        for at, row in enumerate(rows):
            if not is_row(row) or not changes_by(peer, row):
                raise NoRow(at)
        self._take_over(peer)

    def copied(self):
        """A peer that has the same, its log too, and goes its own way."""
        peer = Peer(self._name, self._place)
        peer._take_over(self)
        return peer

    def marks(self):
        """Numbers, texts, None and tuples of these, equal for just two peers that are equal."""
        kept = self._store.told()
        cards = tuple([card for card, _ in kept])
        pieces = tuple([(card[0], at, piece) for card, numbers in kept for at, piece in numbers])
        wrongs = tuple([(name, count, left) for name, (count, left) in self.wrongs().items()])
        return (self._name, tuple(self.known()), cards, pieces, tuple(self._words), wrongs)

    def _note_view(self, ahead, row):
        """Write a row where the view isn't as it was ahead."""
        if self._view != ahead:
            self._log.append(row)

    def _take_over(self, other):
        """Have copies of all that another peer has, but its name and place."""
        self._view = other._view.copied()
        self._store = other._store.copied()
        self._words = dict(other._words)
        self._wrongs = other._wrongs.copied()
        self._log = list(other._log)
