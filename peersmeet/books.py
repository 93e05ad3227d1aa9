"""The plain book: of each key the greatest card that came, and its text."""

from peersmeet.errors import Away, NoBook, NotThere, TooMany, WrongPiece
from peersmeet.marks import MOST_KEYS, MOST_NUMBER, need_name, need_text
from peersmeet.things import card_of, first_wrong, is_ahead


class Book:
    """Cards by their keys, and the text of each, None where the key was taken away."""

    def __init__(self):
        self._cards = {}
        self._texts = {}

    def __len__(self):
        return len(self.keys_of())

    def __eq__(self, other):
        return isinstance(other, Book) and self._cards == other._cards and self._texts == other._texts

    def put(self, key, text, *, by):
        """Put a text under a key; told is its card."""
        need_name(key)
        need_text(text)
        need_name(by)
        return self._write(key, text, by)

    def take(self, key, *, by):
        """Take away the text under a key; told is the card of this."""
        need_name(key)
        need_name(by)
        self._need_text_under(key)
        return self._write(key, None, by)

    def heard(self, card, pieces):
        """Hear a card with all its pieces; told is whether it stands from now on."""
        wrong = first_wrong(card, pieces)
        if wrong is not None:
            raise WrongPiece(wrong)
        self._need_room(card[0])
        return self._keep_greater(card, None if card[3] is None else "".join(pieces))

    def keys_of(self):
        """The keys that have a text, a list in Python's order."""
        return [key for key in sorted(self._texts) if self._texts[key] is not None]

    def look(self, key):
        """The text under a key."""
        need_name(key)
        self._need_text_under(key)
        return self._texts[key]

    def card(self, key):
        """The card of a key."""
        need_name(key)
        self._need_card_of(key)
        return self._cards[key]

    def cards(self):
        """All cards, a list by rising keys."""
        return [self._cards[key] for key in sorted(self._cards)]

    def brought_together(self, other):
        """A new book that has of each key the greater card of both, with its text."""
        if not isinstance(other, Book):
            raise NoBook(other)
        both = len({**self._cards, **other._cards})
        if both > MOST_KEYS:
            raise TooMany(both)
        book = Book()
        for source in (self, other):
            for card in source.cards():
                book._keep_greater(card, source._texts[card[0]])
        return book

    def _write(self, key, text, by):
        """Let a card with the number behind the one that stood stand, with a text or None."""
        self._need_room(key)
        number = self._cards[key][1] + 1 if key in self._cards else 1
        if number > MOST_NUMBER:
            raise TooMany(number)
        card = card_of(key, number, by, text=text)
        self._keep_greater(card, text)
        return card

    def _keep_greater(self, card, text):
        """Keep a card and its text where none or a lesser one stands; told is whether it does now."""
        key = card[0]
        if key in self._cards and not is_ahead(self._cards[key], card):
            return False
        self._cards[key] = card
        self._texts[key] = text
        return True

    def _need_room(self, key):
        """Refuse a key beyond the most, taken away keys counted too."""
        if key not in self._cards and len(self._cards) == MOST_KEYS:
            raise TooMany(MOST_KEYS + 1)

    def _need_card_of(self, key):
        """Refuse a key without a card."""
        if key not in self._cards:
            raise NotThere(key)

    def _need_text_under(self, key):
        """Refuse a key without a card, and one that was taken away."""
        self._need_card_of(key)
        if self._texts[key] is None:
            raise Away(key)
