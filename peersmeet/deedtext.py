"""Deeds and cards written as rows of words, and read."""

from peersmeet.errors import NoDeed
from peersmeet.marks import MOST_PEERS, is_name, is_place, is_text, is_whole, number_in, words_in
from peersmeet.nets import LIES
from peersmeet.things import is_card, need_card

# The words with which deeds begin, and the kinds of the things behind them.
DEED_THINGS = {
    "begin": ("name", "place"), "enter": ("name", "name", "place"), "leave": ("name",), "stop": ("name", "keep"),
    "back": ("name",), "turn": ("name",), "cut": ("sides",), "heal": (), "lie": ("name", "lie"),
    "round": ("order",), "rest": ("order",), "seek": ("name", "place"), "look": ("name", "name"),
    "put": ("name", "name", "put"), "fetch": ("name", "card"), "find": ("name", "name"),
    "say": ("name", "text"), "come": ("number",), "lose": ("number",), "double": ("number",), "flow": (),
}
# A put of None is written by a word of its own.
AWAY = "away"
# Of deeds with these words the last thing is a text that is written.
WITH_TEXT = ("put", "say")
# All words behind these are one thing together.
WITH_NAMES = ("cut", "round", "rest")
# The greatest number of thirty figures.
MOST_HANDED = 999999999999999999999999999999

KEPT = "kept"
LOST = "lost"
NONE = "none"
EMPTY = "empty"
ORDER = "in"


def are_names(thing, fewest):
    """Whether a thing is a tuple of names, as many as a net may have, and no fewer than the fewest."""
    return isinstance(thing, tuple) and fewest <= len(thing) <= MOST_PEERS and all([is_name(one) for one in thing])


def are_sides(thing):
    """Whether a thing is a tuple of sides, each a tuple of names."""
    return isinstance(thing, tuple) and 2 <= len(thing) <= MOST_PEERS and all([are_names(one, 1) for one in thing])


def is_deed_thing(kind, thing):
    """Whether a thing is of the kind that stands at some place of a deed."""
    if kind == "name":
        return is_name(thing)
    if kind == "place":
        return is_place(thing)
    if kind == "number":
        return is_whole(thing, 1, MOST_HANDED)
    if kind == "keep":
        return isinstance(thing, bool)
    if kind == "sides":
        return are_sides(thing)
    if kind == "lie":
        return thing is None or thing in LIES
    if kind == "order":
        return thing is None or are_names(thing, 0)
    if kind == "card":
        return is_card(thing) and thing[3] is not None
    return is_text(thing) or kind == "put" and thing is None


def is_deed(thing):
    """Whether any thing is the tuple of a deed, possible or not."""
    if not isinstance(thing, tuple) or len(thing) == 0 or not isinstance(thing[0], str):
        return False
    if thing[0] not in DEED_THINGS:
        return False
    kinds = DEED_THINGS[thing[0]]
    if len(thing) != len(kinds) + 1:
        return False
    return all([is_deed_thing(kind, part) for kind, part in zip(kinds, thing[1:])])


def thing_text(kind, thing):
    """How a thing of a deed is written."""
    if kind == "keep":
        return KEPT if thing else LOST
    if kind == "sides":
        return " / ".join([" ".join(side) for side in thing])
    if kind == "order":
        return " ".join([ORDER, *thing])
    if kind == "card":
        return card_text(thing)
    if kind in ("text", "put"):
        return "=" + thing
    return NONE if thing is None else str(thing)


def deed_text(deed):
    """The row of a deed."""
    if not is_deed(deed):
        raise NoDeed(deed)
    word, *things = deed
    kinds = DEED_THINGS[word]
    if kinds and kinds[-1] in ("put", "order") and things[-1] is None:
        # None is told by another word, or by no word at all.
        word = AWAY if kinds[-1] == "put" else word
        things = things[:-1]
    return " ".join([word] + [thing_text(kind, thing) for kind, thing in zip(kinds, things)])


def card_text(card):
    """How a card is written."""
    need_card(card)
    key, number, by, marks = card
    if marks is None:
        return f"{key} {number} {by} {NONE}"
    if not marks:
        return f"{key} {number} {by} {EMPTY}"
    return f"{key} {number} {by} " + ",".join([str(mark) for mark in marks])


def marks_in(text):
    """The marks that a text writes; where it writes none, what can't be the marks of a card."""
    if text == NONE:
        return None
    if text == EMPTY:
        return ()
    return tuple([number_in(mark) for mark in text.split(",")])


def card_in(thing):
    """The card that any thing writes, or None."""
    words = words_in(thing)
    if words is None or len(words) != 4:
        return None
    key, number, by, marks = words
    card = (key, number_in(number), by, marks_in(marks))
    return card if is_card(card) else None


def order_in(text):
    """The order that the words behind a round write; where they write none, what can't be an order."""
    words = text.split(" ")
    return tuple(words[1:]) if words[0] == ORDER else text


def thing_in(kind, text):
    """The thing of a kind that a text writes; where it writes none, what can't be of the kind."""
    if kind == "place":
        return number_in(text)
    if kind == "number":
        return number_in(text, high=MOST_HANDED)
    if kind == "keep":
        return text == KEPT if text in (KEPT, LOST) else None
    if kind == "sides":
        return tuple([tuple(side.split(" ")) for side in text.split(" / ")])
    if kind == "order":
        return order_in(text)
    if kind == "card":
        return card_in(text)
    return None if kind == "lie" and text == NONE else text


def texts_of(word, words):
    """The texts of the things of a deed, by the words behind its first one, a list."""
    if word == "fetch":
        return words[:1] + [" ".join(words[1:])]
    if word in WITH_NAMES:
        return [" ".join(words)]
    return words


def read_plain(word, words):
    """What a word, and words behind it, would write as a deed without a text, perhaps none; or None."""
    if word == AWAY:
        return ("put", *words, None)
    if word in WITH_TEXT or word not in DEED_THINGS:
        return None
    kinds = DEED_THINGS[word]
    if kinds == ("order",) and not words:
        return (word, None)
    texts = texts_of(word, words)
    if len(texts) != len(kinds):
        return None
    return (word, *[thing_in(kind, text) for kind, text in zip(kinds, texts)])


def read_with_text(word, words, text):
    """What a word, words behind it and a text would write as a deed, perhaps none; or None."""
    return (word, *words, text) if word in WITH_TEXT else None


def deed_in(thing):
    """The deed that any thing writes as its row, or None."""
    if not isinstance(thing, str):
        return None
    head, sign, text = thing.partition("=")
    # Ahead of the sign stands one blank, that is none of the text.
    if sign and not head.endswith(" "):
        return None
    words = words_in(head[:-1] if sign else thing)
    if words is None:
        return None
    word, *behind = words
    deed = read_with_text(word, behind, text) if sign else read_plain(word, behind)
    return deed if is_deed(deed) else None
