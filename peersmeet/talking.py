"""Talking: what two peers that answer each other tell and hand each other."""

from peersmeet.marks import piece_place
from peersmeet.things import card_places, greater


def keeps_card(circle, name, card, copies):
    """Whether a peer is a keeper of the place of a card, or of one of its pieces."""
    return any([name in circle.keepers(place, copies) for place in card_places(card)])


def keeps_piece(circle, name, card, at, copies):
    """Whether a peer is a keeper of the place of a card's piece."""
    return name in circle.keepers(piece_place(card[0], at), copies)


def talk(one, other, copies):
    """Let two peers hear each other's views, then take cards and pieces, then hear each other's words."""
    share_views(one, other)
    # Both views are equal now, and so are both circles.
    circle = one.circle()
    of_one = one.cards()
    of_other = other.cards()
    for key in sorted({**of_one, **of_other}):
        share_card(one, other, key, circle, copies)
    share_words(one, other)


def share_views(one, other):
    """Let each peer hear all that the other one knows, until neither hears anything new."""
    changed = True
    while changed:
        changed = hear_all(one, other)
        changed = hear_all(other, one) or changed


def hear_all(one, other):
    """Let the one peer hear all that the other one knows; told is whether anything was new."""
    changed = False
    for name, place, number, word in other.known():
        if one.hears(name, place, number, word):
            changed = True
    return changed


def share_card(one, other, key, circle, copies):
    """Let those two that should take the greater of their cards of a key, and its pieces."""
    card = greater_of(one.card(key), other.card(key))
    take_card(one, card, circle, copies)
    take_card(other, card, circle, copies)
    take_pieces(one, other, card, circle, copies)
    take_pieces(other, one, card, circle, copies)


def greater_of(one, other):
    """The greater of two cards, of which one may lack."""
    if one is None or other is None:
        return one or other
    return greater(one, other)


def take_card(peer, card, circle, copies):
    """Let a peer take a card where it keeps it, or has an elder one."""
    if peer.card(card[0]) is not None or keeps_card(circle, peer.name(), card, copies):
        peer.takes(card)


def take_pieces(peer, giver, card, circle, copies):
    """Let a peer take the pieces of a card that it keeps and lacks, and the giver has."""
    # Whoever had an elder card has this one by now, so that all pieces are of this one.
    key = card[0]
    had = peer.pieces(key)
    for at, piece in giver.pieces(key).items():
        if at not in had and keeps_piece(circle, peer.name(), card, at, copies):
            peer.takes_piece(key, at, piece)


def share_words(one, other):
    """Let each of two peers hear the words that the other one has and it lacks."""
    of_one = one.words()
    hear_words(one, other.words())
    hear_words(other, of_one)


def hear_words(peer, words):
    """Let a peer hear words, rising; those that it heard stay where they are."""
    for word in sorted(words):
        peer.hears_word(word)
