"""Logs: the peer that is made by the rows of one."""

from peersmeet.errors import NoLog, NoRow
from peersmeet.marks import is_list
from peersmeet.peers import Peer, is_row


def peer_of(rows):
    """The peer whose log the rows are."""
    if not is_list(rows):
        raise NoLog(rows)
    if len(rows) == 0 or not is_row(rows[0]) or rows[0][0] != "born":
        raise NoRow(0)
    _, name, place = rows[0]
    peer = Peer(name, place)
    try:
        peer.goes_on(rows[1:])
    except NoRow as wrong:
        raise NoRow(wrong.at + 1) from None
    return peer
