"""Papers of seeks, looks and puts: a walk through them that believes nobody."""

from peersmeet.errors import NoPaper
from peersmeet.looks import CALLED, KEEPERS, STEP
from peersmeet.marks import MOST_COPIES, is_name, is_place, is_whole, place_of, way_on
from peersmeet.things import card_places, greatest, is_card
from peersmeet.ways import BACK, MINE, ON, lies_between


def is_tuple(thing, many):
    """Whether a thing is a tuple of so many things."""
    return isinstance(thing, tuple) and len(thing) == many


def are_rising_names(thing):
    """Whether a thing is a tuple of unlike names, rising."""
    if not isinstance(thing, tuple) or not all([is_name(one) for one in thing]):
        return False
    return all([thing[at - 1] < thing[at] for at in range(1, len(thing))])


def has_seek_form(thing):
    """Whether a thing has the form of a seek's paper, whatever its rows."""
    if not is_tuple(thing, 6):
        return False
    asker, own, place, copies, passed, rows = thing
    if not is_name(asker) or not is_place(own) or not is_place(place) or not is_whole(copies, 1, MOST_COPIES):
        return False
    return are_rising_names(passed) and asker not in passed and isinstance(rows, tuple)


class Walk:
    """A walk through the rows of a seek's paper: what was told by then, and what may stand next."""

    def __init__(self, asker, own, place, copies, passed):
        self._asker = asker
        self._place = place
        self._copies = copies
        # Of each name that was told the one place that it has.
        self._places = {asker: own}
        # Whoever was told stands behind who told of it, with whether the way arrived there.
        self._way = [(asker, False)]
        self._without = list(passed)
        self._silent = []
        self._wrong = []
        # Who told anything but None.
        self._told = []
        self._teller = None
        # The keepers that were told last, whether they are told anew next, and who was called.
        self._keepers = []
        self._asks_anew = True
        self._called = []

    def goes(self, row):
        """Go on by a row; told is whether it may stand there."""
        if self._teller is None:
            return is_tuple(row, 5) and self._goes_step(row)
        if self._asks_anew:
            return is_tuple(row, 4) and self._goes_keepers(row)
        return is_tuple(row, 3) and self._goes_called(row)

    def is_over(self):
        """Whether all keepers that were told last have answered."""
        return not self._asks_anew and not self._waiting()

    def tells(self):
        """The names that were found, were silent, and did wrong: three lists."""
        return (self._keepers, self._silent, self._wrong)

    def _waiting(self):
        """The keepers that are still to be called, in order."""
        return [name for name in self._keepers if name not in self._called]

    def _goes_step(self, row):
        """Go on by a row that tells of a step."""
        asked, arrived = self._way[-1]
        _, _, so, _, told = row
        if not isinstance(so, bool) or row[:4] != (STEP, asked, arrived, tuple(self._without)):
            return False
        if told is None:
            return self._goes_silent(asked)
        if not is_tuple(told, 3) or not self._has_place(told[1], told[2]):
            return False
        word, name, _ = told
        self._told.append(asked)
        if name == asked:
            return self._goes_itself(asked, word)
        if name in self._without or not self._is_step(word, asked, name, arrived):
            return False
        self._way.append((name, arrived or not self._is_between(name, asked)))
        return True

    def _goes_silent(self, asked):
        """Go on where one told nothing, which the asker, and who told anything else, doesn't."""
        if asked == self._asker or asked in self._told:
            return False
        self._silent.append(asked)
        self._leave_out(asked)
        return True

    def _goes_itself(self, asked, word):
        """Go on where one told of itself: that the place is its own, or the lie."""
        if word == MINE:
            self._teller = asked
            return True
        if word != ON or asked == self._asker:
            return False
        self._wrong.append(asked)
        self._leave_out(asked)
        return True

    def _leave_out(self, asked):
        """Leave one out from now on; who told of it is asked again."""
        self._without.append(asked)
        self._way.pop()

    def _is_step(self, word, asked, name, arrived):
        """Whether one may tell another one by a word."""
        if word != (BACK if arrived else ON):
            return False
        return word == ON and self._is_between(name, asked) or self._rank(name) < self._rank(asked)

    def _is_between(self, name, asked):
        """Whether a name stands between the asked one and the place."""
        return lies_between(self._places[name], self._places[asked], self._place)

    def _rank(self, name):
        """What orders names round from the place, those at one place by themselves."""
        return (way_on(self._place, self._places[name]), name)

    def _has_place(self, name, place):
        """Whether a name, and a place that it may have, were told."""
        if not is_name(name) or not is_place(place):
            return False
        if name not in self._places:
            self._places[name] = place
        return self._places[name] == place

    def _goes_keepers(self, row):
        """Go on by a row that tells of keepers."""
        peers = row[3]
        if row[:3] != (KEEPERS, self._teller, tuple(self._silent)) or not self._are_keepers(peers):
            return False
        names = [name for name, _ in peers]
        # The silent one, for which they are told again, is the last that was called.
        kept = [name for name in self._keepers if name not in self._silent]
        if self._called and (names[:len(kept)] != kept or len(names) > len(kept) + 1):
            return False
        self._keepers = names
        self._asks_anew = False
        return True

    def _are_keepers(self, peers):
        """Whether a thing may be told as the keepers of the place."""
        if not isinstance(peers, tuple) or not 1 <= len(peers) <= self._copies:
            return False
        if not all([is_tuple(peer, 2) and self._has_place(peer[0], peer[1]) for peer in peers]):
            return False
        names = [name for name, _ in peers]
        if not all([self._rank(names[at - 1]) < self._rank(names[at]) for at in range(1, len(names))]):
            return False
        if any([name in self._silent for name in names]):
            return False
        return self._teller in names or len(names) == self._copies

    def _goes_called(self, row):
        """Go on by a row that tells whether a keeper answers, which who told anything does."""
        waiting = self._waiting()
        _, name, answers = row
        if not waiting or row[:2] != (CALLED, waiting[0]) or not isinstance(answers, bool):
            return False
        if not answers and name in self._told:
            return False
        self._called.append(name)
        if not answers:
            self._silent.append(name)
            self._asks_anew = True
        return True


def walked(paper):
    """What a seek's paper tells, or None of any other thing."""
    if not has_seek_form(paper):
        return None
    asker, own, place, copies, passed, rows = paper
    walk = Walk(asker, own, place, copies, passed)
    for row in rows:
        if not walk.goes(row):
            return None
    return walk.tells() if walk.is_over() else None


def shows_seek(thing):
    """Whether any thing is a seek's paper."""
    return walked(thing) is not None


def seek_told(paper):
    """The names that a seek's paper tells: found, silent, and those that did wrong."""
    told = walked(paper)
    if told is None:
        raise NoPaper(paper)
    return told


def is_told_card(thing, key):
    """Whether a thing may be told as the card of a key, or None."""
    return thing is None or is_card(thing) and thing[0] == key


def shows_look(thing):
    """Whether any thing is a look's paper."""
    if not is_tuple(thing, 3):
        return False
    key, paper, told = thing
    if not is_name(key) or not shows_seek(paper) or paper[2] != place_of(key):
        return False
    if not isinstance(told, tuple) or not all([is_tuple(row, 2) for row in told]):
        return False
    found, _, _ = walked(paper)
    return [name for name, _ in told] == found and all([is_told_card(card, key) for _, card in told])


def number_behind(told):
    """The number that a card has behind those that a look was told, None or cards."""
    cards = [card for _, card in told if card is not None]
    return greatest(cards)[1] + 1 if cards else 1


def shows_put(thing):
    """Whether any thing is a put's paper."""
    if not is_tuple(thing, 3):
        return False
    look_paper, card, seeks = thing
    if not shows_look(look_paper) or not is_card(card) or not isinstance(seeks, tuple):
        return False
    key, paper, told = look_paper
    if card[:3] != (key, number_behind(told), paper[0]) or len(seeks) != len(card_places(card)):
        return False
    asker, own, _, copies, _, _ = paper
    return all([
        shows_seek(one) and one[:4] == (asker, own, place, copies)
        for one, place in zip(seeks, card_places(card))
    ])
