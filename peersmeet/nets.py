"""Nets: peers that come and go, talk turn by turn, are cut into sides and heal, and lie."""

from peersmeet.errors import Alone, Down, NoNumber, NoOrder, NoPeer, NoSides, NoTruth, NoWord
from peersmeet.errors import Quiet, Stands, Taken, TooMany
from peersmeet.marks import MOST_COPIES, MOST_PEERS
from peersmeet.marks import is_list, is_whole, need_name, need_place, piece_place
from peersmeet.peers import Peer
from peersmeet.talking import keeps_card, keeps_piece, talk
from peersmeet.views import GONE, HERE, SILENT

PIECES = "pieces"
STEPS = "steps"
SILENCE = "silence"
LIES = ("pieces", "steps", "silence")


def next_to_try(peer, tried):
    """The first name that a peer tries next in a turn, by whether those it tried answered, or None."""
    for name, _, _, word in peer.known():
        if name == peer.name() or word == GONE:
            continue
        if name not in tried or word == (SILENT if tried[name] else HERE):
            return name
    return None


def next_to_tell(peer, tried):
    """The first other name that is here for a peer that leaves, and that it hasn't tried, or None."""
    for name, _, _, word in peer.known():
        if name != peer.name() and word == HERE and name not in tried:
            return name
    return None


class Net:
    """Peers by their names, where each stands and how it lies, and all deeds that were done."""

    def __init__(self, copies=2):
        if not is_whole(copies, 1, MOST_COPIES):
            raise NoNumber(copies)
        self._copies = copies
        self._peers = {}
        # Of each name a truth.
        self._up = {}
        self._left = {}
        # Of each name its side, and the word that it lies by or None.
        self._sides = {}
        self._lies = {}
        self._deeds = []

    def __len__(self):
        return len(self.standing())

    def __eq__(self, other):
        return isinstance(other, Net) and self.marks() == other.marks()

    def copies(self):
        """How many keepers each place has."""
        return self._copies

    def names(self):
        """The names of all peers, whatever became of them, a rising list."""
        return sorted(self._peers)

    def standing(self):
        """The names of the peers that stand, a rising list."""
        return [name for name in self.names() if self._up[name]]

    def has(self, thing):
        """Whether any thing is the name of a peer."""
        return isinstance(thing, str) and thing in self._peers

    def peer(self, name):
        """A copy of the peer of a name."""
        self._need_peer(name)
        return self._peers[name].copied()

    def side(self, name):
        """The number of the side on which a peer is."""
        self._need_peer(name)
        return self._sides[name]

    def lies(self, name):
        """The word by which a peer lies, or None."""
        self._need_peer(name)
        return self._lies[name]

    def answers(self, one, other):
        """Whether two peers answer each other."""
        self._need_peer(one)
        self._need_peer(other)
        return one != other and self._hears(one) and self._hears(other) and self._sides[one] == self._sides[other]

    def turn(self, name):
        """Let a peer have a turn."""
        self._need_up(name)
        self._have_turn(name)
        self.notes(("turn", name))

    def begin(self, name, place):
        """Let the first peer come."""
        need_name(name)
        need_place(place)
        if self._peers:
            raise TooMany(1)
        self._add(Peer(name, place), 0)
        self.notes(("begin", name, place))

    def enter(self, name, by, place):
        """Let a peer come that another one introduces."""
        need_name(name)
        self._need_peer(by)
        need_place(place)
        if name in self._peers:
            raise Taken(name)
        if len(self._peers) == MOST_PEERS:
            raise TooMany(MOST_PEERS + 1)
        if not self._hears(by):
            raise Quiet(by)
        peer = Peer(name, place)
        for one, at, number, word in self._peers[by].known():
            if one == by:
                peer.hears(one, at, number, word)
        self._add(peer, self._sides[by])
        self._have_turn(name)
        self.notes(("enter", name, by, place))

    def leave(self, name):
        """Let a peer leave, and tell the others of it."""
        self._need_up(name)
        peer = self._peers[name]
        peer.leaves()
        tried = {}
        other = next_to_tell(peer, tried)
        while other is not None:
            tried[other] = self._try(name, other)
            other = next_to_tell(peer, tried)
        self._up[name] = False
        self._left[name] = True
        self.notes(("leave", name))

    def stop(self, name, *, keep=True):
        """Let a peer stop without a word, with or without what it keeps."""
        self._need_peer(name)
        if not isinstance(keep, bool):
            raise NoTruth(keep)
        self._need_up(name)
        if not keep:
            self._peers[name].forgets()
        self._up[name] = False
        self.notes(("stop", name, keep))

    def back(self, name):
        """Let a peer that stopped come back."""
        self._need_peer(name)
        if self._up[name]:
            raise Stands(name)
        if self._left[name]:
            raise NoPeer(name)
        self._up[name] = True
        self._peers[name].comes_back()
        self._have_turn(name)
        self.notes(("back", name))

    def cut(self, sides):
        """Cut the net into sides, lists of names, of which none answers another one."""
        if len(self._peers) < 2:
            raise Alone(len(self._peers))
        if not self._are_sides(sides):
            raise NoSides(sides)
        for at, side in enumerate(sides):
            for name in side:
                self._sides[name] = at
        self.notes(("cut", tuple([tuple(side) for side in sides])))

    def heal(self):
        """Let all be on one side."""
        self._sides = {name: 0 for name in self._peers}
        self.notes(("heal",))

    def lie(self, name, word):
        """Let a peer lie by a word, or, by None, no more."""
        self._need_peer(name)
        if word is not None and word not in LIES:
            raise NoWord(word)
        was_silent = self._lies[name] == SILENCE
        self._lies[name] = word
        if was_silent and self._hears(name):
            self._have_turn(name)
        self.notes(("lie", name, word))

    def go_round(self, order=None):
        """Let each peer that stands and isn't silent have a turn; told is whether anything changed."""
        changed = self._round(self._in_order(order))
        self.notes(("round", None if order is None else tuple(order)))
        return changed

    def rest(self, order=None):
        """Make rounds until one changes nothing; told is how many."""
        names = self._in_order(order)
        rounds = 1
        while self._round(names):
            rounds += 1
        self.notes(("rest", None if order is None else tuple(order)))
        return rounds

    def deeds(self):
        """All deeds that were done, a list of tuples in order."""
        return list(self._deeds)

    def copied(self):
        """A net that stands just so, and goes its own way."""
        net = self.bare_one()
        self.copy_into(net)
        return net

    def marks(self):
        """Numbers, texts, truths, None and tuples, equal for just two nets that are equal."""
        rows = [
            (self._peers[name].marks(), self._up[name], self._left[name], self._sides[name], self._lies[name])
            for name in self.names()
        ]
        return (self._copies, *rows)

    def peer_here(self, name):
        """The very peer of a name, for what stands on nets."""
        return self._peers[name]

    def notes(self, row):
        """Put a deed behind the others."""
        self._deeds.append(row)

    def copy_into(self, other):
        """Lay all that the net has, but its number of copies, on another net."""
        other._peers = {name: peer.copied() for name, peer in self._peers.items()}
        other._up = dict(self._up)
        other._left = dict(self._left)
        other._sides = dict(self._sides)
        other._lies = dict(self._lies)
        other._deeds = list(self._deeds)

    def bare_one(self):
        """A new net of the same class with as many copies, and nothing else."""
        return Net(self._copies)

    def _need_peer(self, name):
        """Refuse what is no name of a peer."""
        if not self.has(name):
            raise NoPeer(name)

    def _need_up(self, name):
        """Refuse what is no name of a peer, and one that doesn't stand."""
        self._need_peer(name)
        if not self._up[name]:
            raise Down(name)

    def _hears(self, name):
        """Whether a peer stands and doesn't lie by silence."""
        return self._up[name] and self._lies[name] != SILENCE

    def _add(self, peer, side):
        """Let a new peer stand on a side."""
        name = peer.name()
        self._peers[name] = peer
        self._up[name] = True
        self._left[name] = False
        self._sides[name] = side
        self._lies[name] = None

    def _try(self, name, other):
        """Let a peer talk with another one, or, where that doesn't answer, have it silent."""
        answers = self.answers(name, other)
        if answers:
            talk(self._peers[name], self._peers[other], self._copies)
        else:
            self._peers[name].silent(other)
        return answers

    def _have_turn(self, name):
        """Let a peer try all others that it knows, and let go of what others keep."""
        peer = self._peers[name]
        tried = {}
        other = next_to_try(peer, tried)
        while other is not None:
            tried[other] = self._try(name, other)
            other = next_to_try(peer, tried)
        circle = peer.circle()
        for card in list(peer.cards().values()):
            self._let_pieces_go(peer, circle, card)
            self._let_card_go(peer, circle, card)
        peer.has_turn()

    def _let_pieces_go(self, peer, circle, card):
        """Let a peer let go of pieces that it doesn't keep, and all their keepers have."""
        key = card[0]
        for at in list(peer.pieces(key)):
            if keeps_piece(circle, peer.name(), card, at, self._copies):
                continue
            keepers = circle.keepers(piece_place(key, at), self._copies)
            if all([self._has_piece(keeper, card, at) for keeper in keepers]):
                peer.lets_go(key, at)

    def _let_card_go(self, peer, circle, card):
        """Let a peer drop a card that it doesn't keep, and has no piece of, and all its keepers have."""
        key = card[0]
        keepers = [name for name in circle.names() if keeps_card(circle, name, card, self._copies)]
        if peer.pieces(key) or peer.name() in keepers:
            return
        if all([self._peers[keeper].card(key) == card for keeper in keepers]):
            peer.drops(key)

    def _has_piece(self, name, card, at):
        """Whether a peer has a card, and its piece with this number."""
        peer = self._peers[name]
        return peer.card(card[0]) == card and at in peer.pieces(card[0])

    def _are_sides(self, sides):
        """Whether a thing is a list of sides on which each peer stands once."""
        if not is_list(sides) or not 2 <= len(sides) <= MOST_PEERS:
            return False
        if not all([is_list(side) and len(side) > 0 for side in sides]):
            return False
        return self._are_just([name for side in sides for name in side], self.names())

    def _are_just(self, things, names):
        """Whether a list has just these names of peers, each once, in any order."""
        return all([self.has(thing) for thing in things]) and sorted(things) == names

    def _in_order(self, order):
        """The names of those that have a turn in a round, in an order or in that of names."""
        names = [name for name in self.standing() if self._hears(name)]
        if order is None:
            return names
        if not is_list(order) or not self._are_just(order, names):
            raise NoOrder(order)
        return list(order)

    def _round(self, names):
        """Let peers have their turns; told is whether anything of what any peer has changed."""
        ahead = self.marks()
        for name in names:
            self._have_turn(name)
        return self.marks() != ahead
