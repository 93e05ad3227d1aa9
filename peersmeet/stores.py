"""Stores: of each key one card at most, and pieces that fit it."""

from peersmeet.errors import NoCard, NoList, NoPiece, NotThere, Taken, TooMany
from peersmeet.marks import MOST_KEYS, is_number, need_name
from peersmeet.things import MOST_THINGS, fits, is_ahead, is_card, marks_in, need_card


class Store:
    """Cards by their keys, and of each card the pieces that are kept, by their numbers."""

    def __init__(self):
        self._cards = {}
        self._pieces = {}

    def __len__(self):
        return len(self._cards)

    def __eq__(self, other):
        return isinstance(other, Store) and self._cards == other._cards and self._pieces == other._pieces

    def take_in(self, card):
        """Keep a card where none or a lesser one is kept; told is whether it is kept now."""
        need_card(card)
        key = card[0]
        if key in self._cards:
            if not is_ahead(self._cards[key], card):
                return False
        elif len(self._cards) == MOST_KEYS:
            raise TooMany(MOST_KEYS + 1)
        self._cards[key] = card
        self._pieces[key] = {}
        return True

    def take_piece(self, key, at, piece):
        """Keep a piece that fits the card of a key; told is whether there was none of this number."""
        self._need_key(key)
        if not fits(self._cards[key], at, piece):
            raise NoPiece(piece)
        if at in self._pieces[key]:
            return False
        self._pieces[key][at] = piece
        return True

    def let_piece(self, key, at):
        """Let the piece of a key with this number go."""
        self._need_key(key)
        if not self.has_piece(key, at):
            raise NotThere(at)
        del self._pieces[key][at]

    def let_card(self, key):
        """Let the card of a key go, of which no piece is kept."""
        self._need_key(key)
        if self._pieces[key]:
            raise Taken(key)
        del self._cards[key]
        del self._pieces[key]

    def keys_of(self):
        """The keys of all cards, a list in Python's order."""
        return sorted(self._cards)

    def card(self, key):
        """The card of a key, or None."""
        need_name(key)
        return self._cards.get(key)

    def pieces(self, key):
        """The pieces of a key, a dict from rising numbers."""
        need_name(key)
        kept = self._pieces.get(key, {})
        return {at: kept[at] for at in sorted(kept)}

    def has_piece(self, key, at):
        """Whether the piece of a key with this number, any thing, is kept."""
        need_name(key)
        # A truth would be found where its number stands, and a list can't be looked for at all.
        return is_number(at) and at in self._pieces.get(key, {})

    def is_whole(self, key):
        """Whether a card of a key is kept, and all its pieces."""
        need_name(key)
        if key not in self._cards:
            return False
        return len(self._pieces[key]) == len(marks_in(self._cards[key]))

    def copied(self):
        """A store that keeps the same, and goes its own way."""
        store = Store()
        store._cards = dict(self._cards)
        store._pieces = {key: dict(kept) for key, kept in self._pieces.items()}
        return store

    def told(self):
        """All that is kept: a tuple of (card, pieces), by rising keys and numbers."""
        return tuple([(self._cards[key], tuple(self.pieces(key).items())) for key in self.keys_of()])

    def _need_key(self, key):
        """Refuse what is no name, and a key without a card."""
        need_name(key)
        if key not in self._cards:
            raise NotThere(key)


def are_pairs(thing):
    """Whether a thing is a tuple of tuples of two."""
    if not isinstance(thing, tuple):
        return False
    return all([isinstance(pair, tuple) and len(pair) == 2 for pair in thing])


def has_told_form(thing):
    """Whether a thing has the form in which a store is told, whatever the cards and pieces."""
    if not are_pairs(thing) or len(thing) > MOST_THINGS:
        return False
    return all([are_pairs(pieces) for _, pieces in thing])


def store_of(thing):
    """The store that takes in all cards and pieces of what a store tells, in any order."""
    if not has_told_form(thing):
        raise NoList(thing)
    store = Store()
    for card, pieces in thing:
        if not is_card(card) or store.card(card[0]) is not None:
            raise NoCard(card)
        store.take_in(card)
        for at, piece in pieces:
            store.take_piece(card[0], at, piece)
    return store
