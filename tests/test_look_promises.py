"""Points 9, 60, 74 and 76: what is found in quiet nets, whatever else was done."""

import unittest

from peersmeet.books import Book
from peersmeet.lookpapers import shows_put, shows_seek
from peersmeet.looks import look, put, seek
from peersmeet.things import card_places, fits, pieces_of
from tests.histories import KEYS, NAMES, TEXTS, History, circle_of, companies, is_whole

SEEDS = range(100)
# What leaves a net quiet, as long as fewer peers stop than it has copies.
CALM = "enter enter leave stop turn round lies put put put put look look look seek seek".split()


class Puts(History):
    """A history in which all cards come by puts."""

    def __init__(self, seed):
        History.__init__(self, seed)
        self.put_cards = {}

    def do_card(self, name):
        text = self.chance.choice(TEXTS)
        card = put(self.net, name, self.chance.choice(KEYS), text)[0]
        self.put_cards.setdefault(card, []).append(text or "")

    def do_enter(self, name):
        new = self.chance.choice(NAMES)
        if new not in self.net.names():
            self.net.enter(new, name, self.places[new])

    def do_lies(self, name):
        self.net.lie(name, self.chance.choice(["steps", "steps", "pieces", None]))


class Quiet(unittest.TestCase):
    def calm(self, history, look_at, do_put):
        """Deeds that leave a net quiet, and what is looked at on the way."""
        net, chance = history.net, history.chance
        stopped = 0
        for _ in range(30):
            name = chance.choice(net.standing())
            word = chance.choice(CALM)
            if word == "put":
                do_put(name, chance.choice(KEYS), chance.choice(TEXTS))
            elif word == "look":
                look_at(name, chance.choice(KEYS))
            elif word == "seek":
                self.seek(net, net.standing(), name, chance.randrange(256))
            elif word == "stop" and len(net) > 1 and stopped + 1 < net.copies():
                stopped += 1
                history.do_stop(name)
            elif word != "stop" and (word != "leave" or len(net) > 1):
                getattr(history, "do_" + word)(name)

    def seek(self, net, names, name, place):
        """The first found is the first that stands, whoever lies by steps or pieces, and all found are the keepers."""
        found, paper = seek(net, name, place)
        circle = circle_of(net, names)
        self.assertEqual(found[0], circle.keeper(place))
        self.assertEqual(found, circle.keepers(place, net.copies()))
        self.assertIs(shows_seek(paper), True)

    def put(self, net, names, name, key, text, elder):
        """A card that is put is told kept by the first that stands at each of its places, and its pieces are had."""
        card, told, paper = put(net, name, key, text)
        self.assertEqual(card[:3], (key, 1 if elder is None else elder[1] + 1, name))
        circle = circle_of(net, names)
        for at, place in enumerate(card_places(card)):
            for keeper in circle.keepers(place, net.copies()):
                self.assertIn(keeper, told)
                if at > 0:
                    self.assertEqual(net.peer(keeper).pieces(key)[at - 1], pieces_of(text)[at - 1])
        self.assertEqual(told, sorted(set(told)))
        for keeper in told:
            self.assertEqual(net.peer(keeper).card(key), card)
        self.assertIs(shows_put(paper), True)
        return card

    def test_from_the_first_peer_on_a_plain_book_has_the_same(self):
        for seed in SEEDS:
            history = Puts(seed + 20000)
            net, book = history.net, Book()

            def book_card(key):
                return book.card(key) if key in [card[0] for card in book.cards()] else None

            def look_at(name, key):
                self.assertEqual(look(net, name, key)[0], book_card(key))

            def do_put(name, key, text):
                if text is not None or key in book.keys_of():
                    ahead = book_card(key)
                    card = book.take(key, by=name) if text is None else book.put(key, text, by=name)
                    self.assertEqual(self.put(net, net.standing(), name, key, text, ahead), card)
            self.calm(history, look_at, do_put)
            for name in net.standing():
                for key in KEYS:
                    look_at(name, key)

    def test_behind_a_rest_what_is_found_is_found_from_then_on(self):
        nets = 0
        for seed in SEEDS:
            history = Puts(seed + 30000)
            net = history.deeds(15)
            net.heal()
            for name in net.names():
                if net.lies(name) == "silence":
                    net.lie(name, None)
            if not net.standing() or not is_whole(net):
                continue
            nets += 1
            net.rest(history.order())
            cards = {key: look(net, net.standing()[0], key)[0] for key in KEYS}

            def look_at(name, key):
                self.assertEqual(look(net, name, key)[0], cards[key])

            def do_put(name, key, text):
                cards[key] = self.put(net, net.standing(), name, key, text, cards[key])
            self.calm(history, look_at, do_put)
        self.assertGreater(nets, 30)

    def test_a_company_of_a_net_that_is_cut_is_quiet_by_itself(self):
        many = 0
        for seed in SEEDS:
            history = Puts(seed + 40000)
            net = history.deeds(25)
            if len(net.names()) > 1:
                net.cut([net.names()[::2], net.names()[1::2]])
            net.rest(history.order())
            groups = companies(net)
            many += len(groups) > 1
            for group in groups:
                cards = {key: look(net, group[0], key)[0] for key in KEYS}
                for name in group:
                    key = history.chance.choice(KEYS)
                    cards[key] = self.put(net, group, name, key, history.chance.choice(TEXTS), cards[key])
                    for other in group:
                        self.assertEqual({key: look(net, other, key)[0] for key in KEYS}, cards)
                    self.seek(net, group, name, history.chance.randrange(256))
        self.assertGreater(many, 30)

    def test_never_is_a_thing_found_that_was_not_put(self):
        for seed in SEEDS:
            history = Puts(seed + 50000)
            net = history.deeds(40)
            for name in net.standing():
                for key in KEYS:
                    card = look(net, name, key)[0]
                    self.assertTrue(card is None or card in history.put_cards)
            for name in net.names():
                for key, card in net.peer(name).cards().items():
                    self.assertIn(card, history.put_cards)
                    for at, piece in net.peer(name).pieces(key).items():
                        self.assertTrue(fits(card, at, piece))
                        # Texts of equal marks may stand for one another, no other ones.
                        self.assertIn(piece, [text[8 * at:8 * at + 8] for text in history.put_cards[card]])

    def test_ways_end_and_come_nearer(self):
        for seed in SEEDS:
            history = Puts(seed + 60000)
            net = history.deeds(30)
            for name in net.standing():
                place = history.chance.randrange(256)
                steps = [row for row in seek(net, name, place)[1][5] if row[0] == "step"]
                # Each other one is asked anew just where one it told of is left out.
                left_out = [row for row in steps if row[4] is None or row[4][:2] == ("on", row[1])]
                self.assertLessEqual(len(steps), len(net.names()) + 2 * len(left_out) + 1)


if __name__ == "__main__":
    unittest.main()
