"""Fetching: a peer of a net asks others for the pieces of a card."""

from peersmeet.circles import others_round
from peersmeet.errors import NoCard
from peersmeet.fetches import WRONG, Fetch
from peersmeet.looks import need_asker, need_standing
from peersmeet.nets import PIECES
from peersmeet.talking import keeps_piece
from peersmeet.things import is_card

# What one that lies gives where it hasn't the piece.
LIE = "lie"


def had_of(peer, card):
    """The pieces that a peer has of this very card, a dict from rising numbers."""
    return peer.pieces(card[0]) if peer.card(card[0]) == card else {}


def claimed_by(net, name, card):
    """The numbers of the pieces of a card that a peer claims to have, a list."""
    if net.lies(name) == PIECES:
        return list(range(len(card[3])))
    return list(had_of(net.peer_here(name), card))


def who_may_have(net, name, card):
    """The other names that a peer asks for a card, round from the one behind it, a list."""
    own = net.peer_here(name)
    circle = own.circle()
    return [
        other for other in others_round(circle, name)
        if not own.passes_over(other)
        and any([keeps_piece(circle, other, card, at, net.copies()) for at in range(len(card[3]))])
    ]


def claims_for(net, name, card):
    """The claims of those that answer a peer that asks for a card; the others are silent in its view."""
    claims = {}
    for other in who_may_have(net, name, card):
        if net.answers(name, other):
            claims[other] = claimed_by(net, other, card)
        else:
            net.peer_here(name).silent(other)
    return claims


def piece_given(net, name, card, at):
    """The piece of a card that a peer gives, as it has it or, where it lies, otherwise."""
    had = had_of(net.peer_here(name), card)
    if net.lies(name) != PIECES:
        return had[at]
    if at not in had:
        return LIE
    first = "b" if had[at][0] == "a" else "a"
    return first + had[at][1:]


def fetched(net, name, card):
    """A fetch of a card by a peer, that isn't noted: the fetch when it has ended, and its paper."""
    own = net.peer_here(name)
    claims = claims_for(net, name, card)
    had = had_of(own, card)
    counts = own.wrongs()
    seen = {other: counts[other][0] for other in claims if other in counts}
    fetch = Fetch(card, claims, had=had, seen=seen)
    while not fetch.ended():
        for asked, at in fetch.asks():
            if fetch.take(asked, at, piece_given(net, asked, card, at)) == WRONG:
                own.saw(asked)
    return (fetch, (card, claims, had, seen, fetch.rows()))


def fetch_in(net, name, card):
    """Let a peer fetch a card; told are its text, and the paper of it."""
    need_asker(net, name)
    if not is_card(card) or card[3] is None:
        raise NoCard(card)
    need_standing(net, name)
    fetch, paper = fetched(net, name, card)
    # The deed was done also where pieces lack.
    net.notes(("fetch", name, card))
    return (fetch.text(), paper)
