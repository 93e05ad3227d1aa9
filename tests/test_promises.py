"""Points 9, 60 and 68: what holds in nets, whatever was done, turn by turn, in any order."""

import unittest

from peersmeet.logs import peer_of
from peersmeet.things import card_of, card_places, pieces_of
from tests.histories import KEYS, NAMES, TEXTS, History
from tests.histories import circle_of, companies, going, had_by, is_whole, just_kept, kept

SEEDS = range(150)


class Companies(unittest.TestCase):
    def views(self, net, company):
        for name in company:
            peer = net.peer_here(name)
            self.assertEqual(peer.known(), net.peer_here(company[0]).known())
            self.assertEqual(peer.circle(), circle_of(net, company))

    def test_behind_two_rounds_equal_views_and_all_words(self):
        for seed in SEEDS:
            history = History(seed)
            net = history.deeds(40)
            groups = companies(net)
            words = [{word for name in group for word in net.peer_here(name).words()} for group in groups]
            net.go_round(history.order())
            net.go_round(history.order())
            for group, said in zip(groups, words):
                self.views(net, group)
                for name in group:
                    self.assertEqual(sorted(net.peer_here(name).words()), sorted(said))

    def test_behind_four_rounds_each_thing_is_at_just_its_keepers(self):
        for seed in SEEDS:
            history = History(seed + 1000)
            net = history.deeds(40)
            groups = companies(net)
            had = [had_by(net, group) for group in groups]
            for _ in range(4):
                net.go_round(history.order())
            for group, things in zip(groups, had):
                for name in group:
                    self.assertEqual(kept(net, name), just_kept(net, name, group, things), (seed, name))

    def test_a_rest_ends_in_six_rounds_and_behind_it_nothing_changes(self):
        for seed in SEEDS:
            history = History(seed + 2000)
            net = history.deeds(40)
            order = history.order()
            groups = companies(net)
            had = [had_by(net, group) for group in groups]
            copy = net.copied()
            rounds = net.rest(order)
            self.assertIn(rounds, range(1, 7))
            self.assertEqual([copy.go_round(order) for _ in range(rounds)], [True] * (rounds - 1) + [False])
            self.assertEqual(copy, net)
            for group, things in zip(groups, had):
                self.views(net, group)
                for name in group:
                    self.assertEqual(kept(net, name), just_kept(net, name, group, things), (seed, name))

    def test_no_turn_loses_what_any_of_them_has_of_a_greatest_card(self):
        for seed in SEEDS:
            history = History(seed + 3000)
            net = history.deeds(40)
            for name in going(net):
                group = [one for one in companies(net) if name in one][0]
                cards, numbers = had_by(net, group)
                net.turn(name)
                cards_behind, numbers_behind = had_by(net, group)
                self.assertEqual(cards_behind, cards)
                self.assertEqual(numbers_behind, numbers)

    def test_healed_and_rested_there_is_one_circle(self):
        many = 0
        for seed in SEEDS:
            history = History(seed + 4000)
            net = history.deeds(30)
            net.heal()
            for name in net.names():
                net.lie(name, None)
            if is_whole(net) and net.standing():
                many += 1
                cards, _ = had_by(net, net.standing())
                net.rest(history.order())
                self.views(net, net.standing())
                circle = circle_of(net, net.standing())
                for key, card in cards.items():
                    for name in circle.keepers(card_places(card)[0], net.copies()):
                        self.assertEqual(net.peer_here(name).card(key), card)
        self.assertGreater(many, 50)


class Peers(unittest.TestCase):
    def test_a_peer_is_what_its_log_makes_of_it(self):
        for seed in SEEDS:
            net = History(seed + 5000).deeds(40)
            for name in net.names():
                peer = net.peer(name)
                self.assertEqual((peer_of(peer.log()), peer_of(peer.log()).log()), (peer, peer.log()))

    def test_a_word_is_heard_once_since_a_peer_last_forgot(self):
        for seed in SEEDS:
            net = History(seed + 6000).deeds(40)
            for name in net.names():
                rows = net.peer(name).log()
                behind = [at for at, row in enumerate(rows) if row == ("forgot",)]
                words = [row[1] for row in rows[behind[-1] if behind else 0:] if row[0] == "word"]
                self.assertEqual(words, net.peer(name).words())
                self.assertEqual(len(words), len(set(words)))

    def test_with_all_names_called_otherwise_all_is_told_likewise(self):
        called = dict(zip(NAMES, ["b", "bb", "cab", "dog", "door", "x", "xy", "zzzzzzzz"]))

        def otherwise(thing):
            if isinstance(thing, tuple):
                return tuple(otherwise(part) for part in thing)
            return called.get(thing, thing) if isinstance(thing, str) else thing

        for seed in SEEDS:
            net, other = History(seed + 7000).deeds(40), History(seed + 7000, called).deeds(40)
            self.assertEqual(otherwise(net.marks()), other.marks())
            for name in net.names():
                self.assertEqual(otherwise(tuple(net.peer(name).log())), tuple(other.peer(called[name]).log()))

    def test_a_net_is_what_its_deeds_make_of_it_again_and_again(self):
        for seed in SEEDS[:20]:
            one, other = History(seed + 8000).deeds(40), History(seed + 8000).deeds(40)
            self.assertEqual((one, one.deeds(), one.marks()), (other, other.deeds(), other.marks()))
            self.assertEqual(one.copied(), one)


class Quiet(unittest.TestCase):
    """A net that is quiet has what was put at each of its keepers that stands, or stopped since."""

    def quiet_net(self, seed):
        history = History(seed)
        net = history.deeds(15)
        net.heal()
        for name in net.names():
            net.lie(name, None)
        if not is_whole(net) or not net.standing():
            return None
        net.rest(history.order())
        return history

    def put(self, history):
        """Hand a card and its pieces to just the keepers that stand."""
        net = history.net
        text = history.chance.choice(TEXTS)
        key = history.chance.choice(KEYS)
        number = max([net.peer_here(name).card(key)[1] for name in net.names() if net.peer_here(name).card(key)] + [0])
        card = card_of(key, number + 1, history.chance.choice(net.standing()), text=text)
        circle = circle_of(net, net.standing())
        for at, place in enumerate(card_places(card)):
            for name in circle.keepers(place, net.copies()):
                net.peer_here(name).takes(card)
                if at > 0:
                    net.peer_here(name).takes_piece(key, at - 1, pieces_of(text)[at - 1])
        return card

    def test_what_was_put_last_is_had(self):
        many = 0
        for seed in SEEDS:
            history = self.quiet_net(seed + 9000)
            if history is None:
                continue
            net = history.net
            many += 1
            cards = {}
            stopped = []
            for _ in range(25):
                card = self.put(history)
                cards[card[0]] = card
                word = history.chance.choice(["enter", "enter", "leave", "stop", "turn", "round"])
                if word == "stop" and len(stopped) + 1 >= net.copies() or len(net) == 1 and word in ("stop", "leave"):
                    continue
                ahead = net.standing()
                name = history.chance.choice(ahead)
                if word == "enter":
                    new = history.chance.choice(NAMES)
                    if new not in net.names():
                        net.enter(new, name, history.places[new])
                else:
                    getattr(history, "do_" + word)(name)
                if word == "stop":
                    stopped.append(name)
                self.look_at(net, stopped, cards)
        self.assertGreater(many, 50)

    def look_at(self, net, stopped, cards):
        circle = circle_of(net, net.standing() + stopped)
        for key, card in cards.items():
            for at, place in enumerate(card_places(card)):
                for name in circle.keepers(place, net.copies()):
                    if name in net.standing():
                        self.assertEqual(net.peer_here(name).card(key), card)
                        if at > 0:
                            self.assertIn(at - 1, net.peer_here(name).pieces(key))


if __name__ == "__main__":
    unittest.main()
