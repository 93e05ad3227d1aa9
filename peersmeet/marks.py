"""Kinds of any thing, places on the ring, marks of texts, numbers and words in texts."""

from peersmeet.errors import NoName, NoNumber, NoPiece, NoPlace, NoText

RING = 256
MOST_PEERS = 8
MOST_KEYS = 12
MOST_PIECES = 8
MOST_COPIES = 4
MOST_NUMBER = 999999

MOST_LETTERS = 8
MOST_SIGNS = 60
MARK_LEFT = 251
PERCENT = 37


def is_number(thing):
    """Whether a thing is a whole number of any size."""
    # Python counts True and False among the integers; here they are none.
    return isinstance(thing, int) and not isinstance(thing, bool)


def is_list(thing):
    """Whether a thing may be handed in where a list is wanted."""
    return isinstance(thing, (list, tuple))


def is_whole(thing, low, high):
    """Whether a thing is a whole number from low to high, both counted."""
    need_number(low)
    need_number(high)
    return is_number(thing) and low <= thing <= high


def is_name(thing):
    """Whether a thing is a name: one to eight letters from a to z."""
    if not isinstance(thing, str) or not 1 <= len(thing) <= MOST_LETTERS:
        return False
    return all(["a" <= sign <= "z" for sign in thing])


def is_text(thing):
    """Whether a thing is a text that may be put."""
    if not isinstance(thing, str) or len(thing) > MOST_SIGNS:
        return False
    return all([" " <= sign <= "~" and ord(sign) != PERCENT for sign in thing])


def is_place(thing):
    """Whether a thing is a place on the ring."""
    return is_number(thing) and 0 <= thing < RING


def need_number(thing):
    """Refuse what is no whole number."""
    if not is_number(thing):
        raise NoNumber(thing)


def need_whole(thing, low, high):
    """Refuse what is no whole number from low to high."""
    if not is_whole(thing, low, high):
        raise NoNumber(thing)


def need_name(thing):
    """Refuse what is no name."""
    if not is_name(thing):
        raise NoName(thing)


def need_text(thing):
    """Refuse what is no text that may be put."""
    if not is_text(thing):
        raise NoText(thing)


def need_place(thing):
    """Refuse what is no place."""
    if not is_place(thing):
        raise NoPlace(thing)


def way_on(one, other):
    """How many places one goes forward from the one place to the other."""
    need_place(one)
    need_place(other)
    return (other - one) % RING


def place_behind(place, many):
    """The place that lies so many places behind a place, round."""
    need_place(place)
    need_number(many)
    return (place + many) % RING


def place_of(key):
    """The place at which the card of a key is kept."""
    need_name(key)
    place = 7
    for letter in key:
        place = (place * 33 + ord(letter) - ord("a") + 1) % RING
    return place


def piece_place(key, at):
    """The place at which the piece of a key with this number is kept."""
    need_name(key)
    if not is_whole(at, 0, MOST_PIECES - 1):
        raise NoPiece(at)
    return place_behind(place_of(key), 32 * (at + 1))


def mark_of(text):
    """The mark of a text that may be put."""
    need_text(text)
    one = 1
    other = 0
    for sign in text:
        one = (one + ord(sign)) % MARK_LEFT
        other = (other + one) % MARK_LEFT
    return 256 * other + one


def number_in(thing, *, low=0, high=MOST_NUMBER):
    """The whole number from low to high that a thing writes by its figures, or None."""
    need_number(low)
    need_number(high)
    if not isinstance(thing, str) or thing == "":
        return None
    if thing[0] == "0" and len(thing) > 1:
        return None
    number = 0
    for sign in thing:
        if not "0" <= sign <= "9":
            return None
        number = number * 10 + ord(sign) - ord("0")
        # More figures make a number only greater, and a long text would take long.
        if number > high:
            return None
    return number if number >= low else None


def words_in(thing):
    """The words of a text with just one blank between any two, or None."""
    if not isinstance(thing, str) or "\n" in thing:
        return None
    words = thing.split(" ")
    return None if "" in words else words
