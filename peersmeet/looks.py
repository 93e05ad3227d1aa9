"""Seeks of a place's keepers over a net, looks for cards, and puts of texts."""

from peersmeet.errors import Down, NoNet, NoPeer, TooMany
from peersmeet.marks import MOST_NUMBER, need_name, need_place, need_text, place_of
from peersmeet.nets import STEPS, Net
from peersmeet.things import card_of, card_places, greatest, pieces_of
from peersmeet.ways import MINE, ON, lies_between, step_of

# The words with which the rows of a seek begin.
STEP = "step"
KEEPERS = "keepers"
CALLED = "called"


def need_asker(net, asker):
    """Refuse what is no net, and no name of its peers."""
    if not isinstance(net, Net):
        raise NoNet(net)
    if not net.has(asker):
        raise NoPeer(asker)


def need_standing(net, asker):
    """Refuse an asker that doesn't stand."""
    if asker not in net.standing():
        raise Down(asker)


class Seek:
    """A seek of a place's keepers: whom the asker leaves out, and what it was told, row by row."""

    def __init__(self, net, asker, place):
        self._net = net
        self._asker = asker
        self._place = place
        self._own = net.peer_here(asker)
        self._passed = [name for name in self._own.wrongs() if name != asker and self._own.passes_over(name)]
        self._without = list(self._passed)
        self._silent = []
        self._rows = []

    def call_keepers(self):
        """Ask for steps, and call keepers, until all that are told have answered; told are their names."""
        teller = self._who_tells_mine()
        called = []
        keepers = self._keepers_told_by(teller)
        waiting = keepers
        while waiting:
            name = waiting[0]
            called.append(name)
            if not self._calls(name):
                keepers = self._keepers_told_by(teller)
            waiting = [one for one in keepers if one not in called]
        return keepers

    def paper(self):
        """What was asked and told, for all to see."""
        return (
            self._asker, self._own.place(), self._place, self._net.copies(),
            tuple(self._passed), tuple(self._rows),
        )

    def _who_tells_mine(self):
        """Ask for steps until one tells that the place is its own; told is who."""
        # Whoever was told stands behind who told of it, with whether the way arrived there.
        way = [(self._asker, False)]
        while True:
            asked, arrived = way[-1]
            told = self._ask(asked, arrived)
            if told is None or told[0] == ON and told[1] == asked:
                self._without.append(asked)
                way.pop()
            elif told[0] == MINE:
                return asked
            else:
                own = self._net.peer_here(asked).place()
                way.append((told[1], arrived or not lies_between(told[2], own, self._place)))

    def _ask(self, asked, arrived):
        """Ask one for a step; told is what it tells."""
        told = self._step_told_by(asked, arrived)
        self._rows.append((STEP, asked, arrived, tuple(self._without), told))
        return told

    def _step_told_by(self, asked, arrived):
        """What one tells who is asked for a step: nothing, a lie, or by its own circle."""
        peer = self._net.peer_here(asked)
        if asked != self._asker:
            if not self._net.answers(self._asker, asked):
                self._silent.append(asked)
                return None
            if self._net.lies(asked) == STEPS:
                self._own.saw(asked)
                return (ON, asked, peer.place())
        return step_of(peer.circle(), asked, self._place, without=self._without, arrived=arrived)

    def _keepers_told_by(self, teller):
        """Ask one for the keepers of the place; told are their names."""
        # Whoever tells has answered, and so is none of the silent itself.
        circle = self._net.peer_here(teller).circle().without(self._silent)
        keepers = circle.keepers(self._place, self._net.copies())
        peers = tuple([(name, circle.place(name)) for name in keepers])
        self._rows.append((KEEPERS, teller, tuple(self._silent), peers))
        return keepers

    def _calls(self, name):
        """Call a keeper; told is whether it answers."""
        answers = name == self._asker or self._net.answers(self._asker, name)
        self._rows.append((CALLED, name, answers))
        if not answers:
            self._silent.append(name)
        return answers


def sought(net, asker, place):
    """What a seek tells that isn't noted: the found names, and its paper."""
    one = Seek(net, asker, place)
    names = one.call_keepers()
    return (names, one.paper())


def looked(net, asker, key):
    """What a look tells that isn't noted: the greatest card or None, and its paper."""
    names, paper = sought(net, asker, place_of(key))
    told = [(name, net.peer_here(name).card(key)) for name in names]
    cards = [card for _, card in told if card is not None]
    return (greatest(cards) if cards else None, (key, paper, tuple(told)))


def seek(net, asker, place):
    """Seek the keepers of a place; told are their names, and the paper of it."""
    need_asker(net, asker)
    need_place(place)
    need_standing(net, asker)
    told = sought(net, asker, place)
    net.notes(("seek", asker, place))
    return told


def look(net, asker, key):
    """Look for the card of a key; told is the greatest, or None, and the paper of it."""
    need_asker(net, asker)
    need_name(key)
    need_standing(net, asker)
    told = looked(net, asker, key)
    net.notes(("look", asker, key))
    return told


def put(net, asker, key, text):
    """Put a text, or None, under a key; told is its card, who has it now, and the paper of it."""
    need_asker(net, asker)
    need_name(key)
    if text is not None:
        need_text(text)
    need_standing(net, asker)
    stood, paper = looked(net, asker, key)
    number = 1 if stood is None else stood[1] + 1
    if number > MOST_NUMBER:
        raise TooMany(number)
    card = card_of(key, number, asker, text=text)
    seeks = [sought(net, asker, place) for place in card_places(card)]
    found = [names for names, _ in seeks]
    hand_out(net, card, text, found)
    net.notes(("put", asker, key, text))
    papers = tuple([seek_paper for _, seek_paper in seeks])
    return (card, who_has(net, card, found), (paper, card, papers))


def hand_out(net, card, text, found):
    """Let the keepers that were found, place by place, take a card, and each piece."""
    # A card's own place is the first, and has no piece.
    pieces = [None] + ([] if text is None else pieces_of(text))
    for at, names in enumerate(found):
        for name in names:
            peer = net.peer_here(name)
            peer.takes(card)
            if at > 0 and peer.card(card[0]) == card:
                peer.takes_piece(card[0], at - 1, pieces[at])


def who_has(net, card, found):
    """The names of those found that have just this card, a rising list."""
    names = sorted({name for some in found for name in some})
    return [name for name in names if net.peer_here(name).card(card[0]) == card]
