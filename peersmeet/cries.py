"""Cries: words that are said and handed on from peer to peer, by letters, until all have heard them."""

from peersmeet.circles import need_name_of, others_round
from peersmeet.errors import NoPlace
from peersmeet.marks import is_name, is_place, need_text
from peersmeet.nets import Net
from peersmeet.roads import Roads


def is_end(thing):
    """Whether a thing is an end up to which a peer may serve others: (name, place)."""
    return isinstance(thing, tuple) and len(thing) == 2 and is_name(thing[0]) and is_place(thing[1])


def first_from(circle, end):
    """The first name of a circle at an end or behind it, round, whether the circle has this end or not."""
    name, place = end
    behind = [one for one, own in circle.peers() if (own, one) >= (place, name)]
    return behind[0] if behind else circle.names()[0]


def served(circle, name, end):
    """The names that a peer serves up to an end, a list in the order round."""
    others = others_round(circle, name)
    first = first_from(circle, end)
    return others if first == name else others[:others.index(first)]


def handed_on(circle, name, end):
    """To whom a peer hands a word on, and up to which end each: a list of (goal, end) in the order round."""
    need_name_of(circle, name)
    if not is_end(end):
        raise NoPlace(end)
    near = [circle.next_of(name)] + circle.fingers(name)
    goals = [one for one in served(circle, name, end) if one in near]
    ends = [(one, circle.place(one)) for one in goals[1:]] + [end]
    return list(zip(goals, ends))


def tree_of(circle, name):
    """All hands of a word that a name says, a list of (giver, goal, end, deep) in the order in which they come."""
    need_name_of(circle, name)
    hands = []
    waiting = [(name, (name, circle.place(name)), 1)]
    while waiting:
        giver, end, deep = waiting.pop(0)
        for goal, own_end in handed_on(circle, giver, end):
            hands.append((giver, goal, own_end, deep))
            waiting.append((goal, own_end, deep + 1))
    return hands


class Cries(Net):
    """A net with roads, over which words that are said come to all."""

    def __init__(self, copies=2):
        Net.__init__(self, copies)
        self._roads = Roads()

    def __eq__(self, other):
        return isinstance(other, Cries) and self.marks() == other.marks()

    def marks(self):
        """Numbers, texts, truths, None and tuples, equal for just two Cries that are equal."""
        rows = super().marks()
        letters = sorted([letter for _, letter in self.under_way()])
        # A net's marks begin with a number, so that no net has these.
        return (tuple(letters), *rows)

    def say(self, name, text):
        """Let a peer say a text to all; told is the word."""
        self._need_peer(name)
        need_text(text)
        self._need_up(name)
        peer = self.peer_here(name)
        own = (name, peer.number())
        ahead = [word for word in peer.words() if word[:2] == own]
        word = (*own, len(ahead) + 1, text)
        peer.hears_word(word)
        self._hand_on(name, word, (name, peer.place()))
        self.notes(("say", name, text))
        return word

    def come(self, number):
        """Let a letter come; told is whether its goal heard the word for the first time."""
        heard = self._arrives(self._roads.take_off(number))
        self.notes(("come", number))
        return heard

    def lose(self, number):
        """Lose a letter."""
        self._roads.take_off(number)
        self.notes(("lose", number))

    def double(self, number):
        """Double a letter; told is the other one's number."""
        other = self._roads.doubled(number)
        self.notes(("double", number))
        return other

    def flow(self):
        """Let letters come until none is left; told is how many came."""
        many = 0
        while len(self._roads) > 0:
            self._arrives(self._roads.take_off(self._roads.numbers()[0]))
            many += 1
        self.notes(("flow",))
        return many

    def under_way(self):
        """All letters under way, a list of (number, letter), rising."""
        return [(number, self._roads.letter(number)) for number in self._roads.numbers()]

    def heard(self, name):
        """The words that a peer heard, a list in the order in which it first heard them."""
        self._need_peer(name)
        return self.peer_here(name).words()

    def copy_into(self, other):
        """Lay all that these Cries have, but their number of copies, on others."""
        super().copy_into(other)
        other._roads = self._roads.copied()

    def bare_one(self):
        """New Cries with as many copies, and nothing else."""
        return Cries(self.copies())

    def _arrives(self, letter):
        """Let a letter that was taken off come to its goal; told is whether that heard the word."""
        giver, goal, word, end = letter
        if not self.answers(giver, goal) or not self.peer_here(goal).hears_word(word):
            return False
        self._hand_on(goal, word, end)
        return True

    def _hand_on(self, name, word, end):
        """Let a peer hand a word on by its own circle, up to an end."""
        circle = self.peer_here(name).circle()
        for goal, own_end in handed_on(circle, name, end):
            self._roads.put((name, goal, word, own_end))
