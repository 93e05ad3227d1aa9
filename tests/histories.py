"""What the tests of promises share: histories of deeds in any order, and what is to hold behind them."""

import random

from peersmeet.circles import Circle
from peersmeet.cries import Cries
from peersmeet.errors import Absent, Barred, PeerError
from peersmeet.fetching import fetch_in
from peersmeet.finds import find_in
from peersmeet.looks import look, put, seek
from peersmeet.nets import Net
from peersmeet.talking import keeps_card, keeps_piece
from peersmeet.things import card_of, greater, pieces_of

NAMES = ["ada", "ben", "cy", "dan", "eve", "fay", "gil", "hal"]
KEYS = ["a", "key", "m", "zz"]
TEXTS = [None, "", "abc", "12345678", "a text of some more pieces", "x" * 60, "bdb", "cbc"]


def going(net):
    """The names of those that stand and don't lie by silence."""
    return [name for name in net.standing() if net.lies(name) != "silence"]


def companies(net):
    """The companies of a net, lists of names."""
    left = going(net)
    found = []
    while left:
        company = [left.pop(0)]
        for one in company:
            for other in list(left):
                if net.side(one) == net.side(other) and (knows(net, one, other) or knows(net, other, one)):
                    left.remove(other)
                    company.append(other)
        found.append(sorted(company))
    return found


def knows(net, one, other):
    return other in [name for name, _, _, _ in net.peer_here(one).known()]


def circle_of(net, names):
    return Circle([(name, net.peer_here(name).place()) for name in names])


def is_whole(net):
    """Whether a net isn't cut, nobody lies by silence, and all that stand know one another near and far."""
    sides = {net.side(name) for name in net.names()}
    lies = {net.lies(name) for name in net.names()}
    return sides == {0} and "silence" not in lies and len(companies(net)) <= 1


def had_by(net, company):
    """Of each key the greatest card that some of a company have, and the numbers of the pieces that they have."""
    cards = {}
    for name in company:
        for key, card in net.peer_here(name).cards().items():
            cards[key] = greater(cards.get(key, card), card)
    numbers = {key: set() for key in cards}
    for name in company:
        for key, card in net.peer_here(name).cards().items():
            if card == cards[key]:
                numbers[key] |= set(net.peer_here(name).pieces(key))
    return cards, numbers


def just_kept(net, name, company, had):
    """What a peer has where each of a company has just what is its own."""
    cards, numbers = had
    circle = circle_of(net, company)
    kept = {key: card for key, card in cards.items() if keeps_card(circle, name, card, net.copies())}
    return kept, {
        key: [at for at in sorted(numbers[key]) if keeps_piece(circle, name, card, at, net.copies())]
        for key, card in kept.items()
    }


def kept(net, name):
    peer = net.peer_here(name)
    return peer.cards(), {key: list(peer.pieces(key)) for key in peer.cards()}


class History:
    """A net to which deeds are done, as a seed has them."""

    kind = Net
    words = ("enter enter enter leave stop back back cut heal heal lie lie turn turn turn round rest "
             "word word card card card card").split()

    def __init__(self, seed, called=None):
        self.chance = random.Random(seed)
        self.called = {name: name for name in NAMES} if called is None else called
        self.places = {name: self.chance.choice([0, 50, self.chance.randrange(256)]) for name in NAMES}
        self.net = self.kind(self.chance.randint(1, 4))
        self.net.begin(self.called["ada"], self.places["ada"])

    def order(self):
        names = going(self.net)
        self.chance.shuffle(names)
        return names

    def deed(self):
        """The next deed; refused ones are passed over."""
        word = self.chance.choice(self.words)
        try:
            getattr(self, "do_" + word)(self.chance.choice(self.net.names()))
        except (PeerError, Absent, Barred):
            pass

    def deeds(self, most):
        for _ in range(self.chance.randint(1, most)):
            self.deed()
        return self.net

    def do_enter(self, name):
        new = self.chance.choice(NAMES)
        self.net.enter(self.called[new], name, self.places[new])

    def do_leave(self, name):
        self.net.leave(name)

    def do_stop(self, name):
        self.net.stop(name, keep=self.chance.random() < 0.7)

    def do_back(self, name):
        self.net.back(name)

    def do_cut(self, name):
        sides = [[] for _ in range(self.chance.randint(2, 3))]
        for one in self.net.names():
            self.chance.choice(sides).append(one)
        self.net.cut(sides)

    def do_heal(self, name):
        self.net.heal()

    def do_lie(self, name):
        self.net.lie(name, self.chance.choice([None, None, "pieces", "steps", "silence"]))

    def do_turn(self, name):
        self.net.turn(name)

    def do_round(self, name):
        self.net.go_round(self.order())

    def do_rest(self, name):
        self.net.rest(self.order())

    def do_word(self, name):
        self.net.peer_here(name).hears_word((name, self.chance.randint(1, 3), self.chance.randint(1, 3), "hi"))

    def do_card(self, name):
        text = self.chance.choice(TEXTS)
        card = card_of(self.chance.choice(KEYS), self.chance.randint(1, 4), name, text=text)
        peer = self.net.peer_here(self.chance.choice(self.net.names()))
        peer.takes(card)
        for at, piece in enumerate([] if text is None else pieces_of(text)):
            if peer.card(card[0]) == card and self.chance.random() < 0.8:
                peer.takes_piece(card[0], at, piece)


class Deeds(History):
    """A history of all deeds that there are, to which nothing else is done."""

    kind = Cries
    words = ("enter enter enter leave stop back back cut heal heal lie lie turn turn round rest "
             "say say say come come come lose double flow put put put put look seek find find fetch fetch").split()

    def __init__(self, seed, called=None):
        History.__init__(self, seed, called)
        # Of each card the texts that were put with it, and all texts that were found, each with its card.
        self.put_cards = {}
        self.found = []
        self.said = []

    def number(self):
        """The number of some letter, or of none."""
        return self.chance.choice([number for number, _ in self.net.under_way()] + [self.chance.randint(1, 5)])

    def any_card(self):
        never = card_of("m", 1, self.called["ada"], text="what was never put")
        return self.chance.choice(list(self.put_cards) + [never])

    def do_say(self, name):
        self.said.append(self.net.say(name, self.chance.choice(["hi", "", "a = b"])))

    def do_come(self, name):
        self.net.come(self.number())

    def do_lose(self, name):
        self.net.lose(self.number())

    def do_double(self, name):
        self.net.double(self.number())

    def do_flow(self, name):
        self.net.flow()

    def do_put(self, name):
        text = self.chance.choice(TEXTS)
        card, _, _ = put(self.net, name, self.chance.choice(KEYS), text)
        self.put_cards.setdefault(card, []).append(text)

    def do_look(self, name):
        look(self.net, name, self.chance.choice(KEYS))

    def do_seek(self, name):
        seek(self.net, name, self.chance.randrange(256))

    def do_find(self, name):
        text, paper = find_in(self.net, name, self.chance.choice(KEYS))
        self.found.append((paper[1][0], text))

    def do_fetch(self, name):
        card = self.any_card()
        text, _ = fetch_in(self.net, name, card)
        self.found.append((card, text))
