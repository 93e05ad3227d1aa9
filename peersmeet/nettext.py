"""Cries written as whole texts, row by row, and read; and deeds done in Cries."""

from peersmeet.cries import Cries
from peersmeet.deeds import do_by_word
from peersmeet.deedtext import deed_in, deed_text, is_deed
from peersmeet.errors import Absent, Barred, NoCries, NoDeed, NoRow, NoText, PeerError
from peersmeet.marks import MOST_COPIES, number_in, words_in

# The word of the first row.
NET = "net"


def need_cries(thing):
    """Refuse what are no Cries."""
    if not isinstance(thing, Cries):
        raise NoCries(thing)


def do_deed(net, deed):
    """Do a deed in Cries; told, or refused, is what the deed tells."""
    need_cries(net)
    if not is_deed(deed):
        raise NoDeed(deed)
    word, *things = deed
    return do_by_word(net, word, things)


def net_text(net):
    """Cries as a whole text: their copies, and the rows of all their deeds."""
    need_cries(net)
    return "\n".join([f"{NET} {net.copies()}"] + [deed_text(deed) for deed in net.deeds()])


def copies_in(row):
    """The number of copies that a first row writes, or None."""
    words = words_in(row)
    if words is None or len(words) != 2 or words[0] != NET:
        return None
    return number_in(words[1], low=1, high=MOST_COPIES)


def is_done(net, deed):
    """Do a deed; told is whether it was done, as it also is where it was refused, but is noted."""
    many = len(net.deeds())
    try:
        do_deed(net, deed)
    except (PeerError, Absent, Barred):
        return len(net.deeds()) > many
    return True


def net_of(text):
    """The Cries that a whole text writes."""
    if not isinstance(text, str):
        raise NoText(text)
    first, *rows = text.split("\n")
    copies = copies_in(first)
    if copies is None:
        raise NoRow(0)
    net = Cries(copies)
    for at, row in enumerate(rows):
        deed = deed_in(row)
        if deed is None or not is_done(net, deed):
            raise NoRow(at + 1)
    return net
