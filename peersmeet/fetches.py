"""Fetches: the pieces of a card, asked turn by turn of those who claim to have them."""

from peersmeet.errors import NoCard, NoList, NotThere, WrongPiece
from peersmeet.marks import MOST_PEERS, is_list, is_name, is_number, is_whole
from peersmeet.things import fits, is_card, whole_text
from peersmeet.wrongs import MOST_WRONGS

# The words of answers.
RIGHT = "right"
SILENT = "silent"
WRONG = "wrong"


def is_piece_number(card, thing):
    """Whether a thing is the number of a piece of a card."""
    return is_whole(thing, 0, len(card[3]) - 1)


def are_claimed(card, numbers):
    """Whether a thing is a list of numbers of a card's pieces, rising, each once."""
    if not is_list(numbers) or not all([is_piece_number(card, at) for at in numbers]):
        return False
    return all([numbers[at - 1] < numbers[at] for at in range(1, len(numbers))])


def need_claims(card, claims):
    """Refuse what is no dict of names with the numbers that each claims."""
    if not isinstance(claims, dict) or len(claims) > MOST_PEERS:
        raise NoList(claims)
    for name, numbers in claims.items():
        if not is_name(name) or not are_claimed(card, numbers):
            raise NoList(claims)


def need_had(card, had):
    """Refuse what is no dict of numbers with texts, and one that doesn't fit."""
    if not isinstance(had, dict):
        raise NoList(had)
    for at, piece in had.items():
        if not is_piece_number(card, at) or not isinstance(piece, str):
            raise NoList(had)
    for at, piece in had.items():
        if not fits(card, at, piece):
            raise WrongPiece(at)


def need_seen(seen):
    """Refuse what is no dict of names with how many wrong pieces of each were seen."""
    if not isinstance(seen, dict):
        raise NoList(seen)
    for name, many in seen.items():
        if not is_name(name) or not is_number(many) or many < 0:
            raise NoList(seen)


class Fetch:
    """What is had of a card's pieces, who still claims which, and all answers by now."""

    def __init__(self, card, claims, *, had=None, seen=None):
        if not is_card(card) or card[3] is None:
            raise NoCard(card)
        need_claims(card, claims)
        if had is not None:
            need_had(card, had)
        if seen is not None:
            need_seen(seen)
        self._card = card
        # Those that aren't struck.
        self._claims = {name: list(numbers) for name, numbers in claims.items()}
        self._pieces = dict(had or {})
        self._seen_ahead = dict(seen or {})
        self._asked = {name: 0 for name in claims}
        self._wrongs = {name: 0 for name in claims}
        self._rows = []
        self._turns = 0
        self._in_turn = False
        self._asks = self._asks_of_turn()

    def asks(self):
        """The asks of the turn that aren't answered, a list of (name, number) in order."""
        return list(self._asks)

    def take(self, name, at, answer):
        """Take the answer, any thing, to an ask; told is the word of it."""
        # A truth would be taken for the number that it equals.
        if not is_number(at) or (name, at) not in self._asks:
            raise NotThere((name, at))
        word = self._take_in(name, at, answer)
        self._rows.append((self._turns, name, at, answer, word))
        self._asked[name] += 1
        self._asks = [ask for ask in self._asks if ask != (name, at)]
        if not self._asks:
            self._turns += 1
            self._asks = self._asks_of_turn()
        return word

    def turn(self, give):
        """Have the asks of the turn answered by a def of name and number; told is how many were right."""
        was_in_turn = self._in_turn
        self._in_turn = True
        right = 0
        try:
            for name, at in self.asks():
                if self.take(name, at, give(name, at)) == RIGHT:
                    right += 1
        finally:
            self._in_turn = was_in_turn
        return right

    def in_turn(self):
        """Whether the asks of a turn are being answered by a def."""
        return self._in_turn

    def turns(self):
        """How many turns are over."""
        return self._turns

    def rows(self):
        """All answers, a list of (turn, name, number, answer, word) in order."""
        return list(self._rows)

    def asked(self):
        """Of each name of the claims how often it was asked, a dict in their order."""
        return dict(self._asked)

    def wrongs(self):
        """Of each name of the claims how many wrong pieces were seen since, a dict in their order."""
        return dict(self._wrongs)

    def lacking(self):
        """The numbers of the pieces that lack, a rising list."""
        return [at for at in range(len(self._card[3])) if at not in self._pieces]

    def ended(self):
        """Whether nothing is asked for."""
        return not self._asks

    def text(self):
        """The text of all pieces."""
        return whole_text(self._card, self._pieces)

    def _take_in(self, name, at, answer):
        """Keep what is right, and strike the claims that are none; told is the word of an answer."""
        if fits(self._card, at, answer):
            self._pieces[at] = answer
            return RIGHT
        if answer is None:
            self._claims[name] = []
            return SILENT
        self._claims[name] = [claim for claim in self._claims[name] if claim != at]
        self._wrongs[name] += 1
        return WRONG

    def _asks_of_turn(self):
        """What is asked for in a turn, and of whom, a list of (name, number)."""
        claimed = {at: self._who_claims(at) for at in self.lacking()}
        rarest = sorted([(len(names), at) for at, names in claimed.items()])
        asks = []
        free = {name: True for name in self._claims}
        for _, at in rarest:
            names = [name for name in claimed[at] if free[name]]
            if names:
                # Of several that were asked as often the first is found.
                name = min(names, key=lambda one: self._asked[one])
                free[name] = False
                asks.append((name, at))
        return asks

    def _who_claims(self, at):
        """The names of which a claim for a piece stands, in the order of the claims."""
        return [name for name, numbers in self._claims.items() if at in numbers and not self._is_passed_over(name)]

    def _is_passed_over(self, name):
        """Whether three wrong pieces of a name were seen, ahead and since together."""
        return self._seen_ahead.get(name, 0) + self._wrongs[name] >= MOST_WRONGS
