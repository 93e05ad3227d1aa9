"""A desk: lines that do deeds in Cries, and lines that ask what there is."""

from peersmeet.cries import Cries
from peersmeet.deedtext import NONE, card_text, deed_in, deed_text
from peersmeet.errors import NoLine, NoList
from peersmeet.marks import is_list, is_name, is_place, number_in, words_in
from peersmeet.nettext import do_deed

# The words with which lines ask, and the kinds of the parts behind them.
QUESTION_PARTS = {
    "names": (), "standing": (), "copies": (), "deeds": (), "letters": (), "at": ("peer",), "knows": ("peer",),
    "circle": ("peer",), "keepers": ("peer", "place"), "cards": ("peer",), "pieces": ("peer", "key"),
    "words": ("peer",), "wrongs": ("peer",),
}
MOST_LINES = 100


def text_of_word(word):
    """How a word that was said is written."""
    by, number, at, text = word
    return f"{by} {number} {at} ={text}"


def text_of_found(card):
    """How a card that was found is written, or None."""
    return NONE if card is None else card_text(card)


def answer_of_deed(word, told):
    """The answer to a line that did a deed, by its word and what the deed told."""
    if word == "say":
        return [text_of_word(told)]
    if word in ("fetch", "find"):
        return ["=" + told[0]]
    if word == "look":
        return [text_of_found(told[0])]
    if word == "put":
        return [card_text(told[0])] + told[1]
    if word == "seek":
        return told[0]
    if word == "round":
        return ["changed" if told else "same"]
    if word == "come":
        return ["heard" if told else "nothing"]
    return [str(told)] if word in ("rest", "double", "flow") else []


def part_in(kind, word):
    """The part of a question that a word writes, or None."""
    if kind == "place":
        place = number_in(word)
        return place if is_place(place) else None
    return word if is_name(word) else None


def question_in(line):
    """The word and the parts of a question that any thing writes, a list, or None."""
    words = words_in(line)
    if words is None or words[0] not in QUESTION_PARTS:
        return None
    kinds = QUESTION_PARTS[words[0]]
    if len(words) != len(kinds) + 1:
        return None
    parts = [part_in(kind, word) for kind, word in zip(kinds, words[1:])]
    return None if None in parts else [words[0]] + parts


def answer_of_net(net, word):
    """The answer to a question for what a net has."""
    if word == "names":
        return net.names()
    if word == "standing":
        return net.standing()
    if word == "copies":
        return [str(net.copies())]
    if word == "deeds":
        return [deed_text(deed) for deed in net.deeds()]
    return [
        f"{number} {giver} {goal} {text_of_word(said)}"
        for number, (giver, goal, said, _) in net.under_way()
    ]


def text_of_peer(net, name):
    """Where a peer stands, and how."""
    stands = "stands" if name in net.standing() else "down"
    lie = net.lies(name)
    peer = net.peer(name)
    return f"{peer.place()} {peer.number()} {net.side(name)} {stands} {NONE if lie is None else lie}"


def answer_of_peer(net, word, parts):
    """The answer to a question for what a peer has, by its name and perhaps one part more."""
    name = parts[0]
    peer = net.peer(name)
    if word == "at":
        return [text_of_peer(net, name)]
    if word == "knows":
        return [f"{one} {place} {number} {its}" for one, place, number, its in peer.known()]
    if word == "circle":
        return peer.circle().names()
    if word == "keepers":
        return peer.circle().keepers(parts[1], net.copies())
    if word == "cards":
        return [card_text(card) for card in peer.cards().values()]
    if word == "pieces":
        return [f"{at} ={piece}" for at, piece in peer.pieces(parts[1]).items()]
    if word == "words":
        return [text_of_word(said) for said in peer.words()]
    return [f"{one} {count} {left}" for one, (count, left) in peer.wrongs().items()]


class Desk:
    """Cries to which deeds are done, and of which is asked, line by line."""

    def __init__(self, copies=2):
        self._net = Cries(copies)

    def say(self, line):
        """Do what a line writes, or tell what it asks; the answer is a list of texts."""
        deed = deed_in(line)
        if deed is not None:
            return answer_of_deed(deed[0], do_deed(self._net, deed))
        question = question_in(line)
        if question is None:
            raise NoLine(line)
        word, *parts = question
        if parts:
            # A name of no peer is refused by the Cries.
            return answer_of_peer(self._net, word, parts)
        return answer_of_net(self._net, word)

    def say_all(self, lines):
        """Say lines, one behind the other; the answers are a list of lists of texts."""
        if not is_list(lines) or len(lines) > MOST_LINES:
            raise NoList(lines)
        return [self.say(line) for line in lines]

    def net(self):
        """A copy of the Cries."""
        return self._net.copied()
