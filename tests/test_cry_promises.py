"""Points 9, 60, 88 and 97: words that are said, and what is found, whatever was done."""

import unittest

from peersmeet.books import Book
from peersmeet.cries import Cries
from peersmeet.errors import Away, Lacks, NotFound
from peersmeet.finds import find_in, text_shown
from peersmeet.logs import peer_of
from peersmeet.looks import look, put
from peersmeet.things import pieces_of
from tests.histories import KEYS, NAMES, TEXTS, Deeds, circle_of, companies, is_whole

SEEDS = range(120)


def found(net, name, key):
    """The text that a peer finds, None where it is told that there is none."""
    try:
        text, paper = find_in(net, name, key)
    except (NotFound, Away):
        return None
    assert text_shown(paper) == text
    return text


class Words(unittest.TestCase):
    def test_nobody_hears_a_word_twice_or_one_that_was_not_said(self):
        for seed in SEEDS:
            history = Deeds(seed)
            net = history.deeds(80)
            for name in net.names():
                rows = net.peer(name).log()
                forgot = [at for at, row in enumerate(rows) if row == ("forgot",)]
                words = [row[1] for row in rows if row[0] == "word"]
                self.assertLessEqual(set(words), set(history.said))
                since = [row[1] for row in rows[forgot[-1] if forgot else 0:] if row[0] == "word"]
                self.assertEqual((len(since), since), (len(set(since)), net.heard(name)))

    def test_behind_two_rounds_all_of_a_company_have_heard_all(self):
        for seed in SEEDS:
            history = Deeds(seed + 1000)
            net = history.deeds(60)
            groups = companies(net)
            words = [{word for name in group for word in net.heard(name)} for group in groups]
            net.go_round(history.order())
            net.go_round(history.order())
            for group, said in zip(groups, words):
                for name in group:
                    self.assertEqual(set(net.heard(name)), said)

    def test_all_hear_a_word_by_as_many_letters_as_there_are_others_and_those_doubled(self):
        many = 0
        for seed in SEEDS:
            history = Deeds(seed + 2000)
            net = history.deeds(40)
            net.heal()
            for name in net.names():
                net.lie(name, None)
            if not net.standing() or not is_whole(net):
                continue
            many += 1
            net.rest()
            net.flow()
            chance = history.chance
            said, doubled, came = [], 0, 0
            for _ in range(chance.randint(1, 3)):
                said.append(net.say(chance.choice(net.standing()), "listen"))
            while net.under_way():
                number = chance.choice(net.under_way())[0]
                if chance.random() < 0.2:
                    net.double(number)
                    doubled += 1
                net.come(number)
                came += 1
            self.assertEqual(came, len(said) * (len(net) - 1) + doubled)
            for name in net.standing():
                self.assertLessEqual(set(said), set(net.heard(name)))
        self.assertGreater(many, 40)

    def test_a_letter_lost_is_made_good_by_two_rounds(self):
        for seed in SEEDS:
            history = Deeds(seed + 3000)
            net = history.deeds(40)
            groups = companies(net)
            for group in groups:
                word = net.say(group[0], "listen")
                for number, _ in net.under_way():
                    (net.lose if history.chance.random() < 0.5 else net.come)(number)
                net.go_round(history.order())
                net.go_round(history.order())
                for name in group:
                    self.assertIn(word, net.heard(name))


class Finds(unittest.TestCase):
    def test_what_is_found_is_what_was_put(self):
        many = 0
        for seed in SEEDS:
            history = Deeds(seed + 4000)
            history.deeds(150)
            for card, text in history.found:
                many += 1
                texts = history.put_cards[card]
                # Texts of equal marks may stand for one another, piece by piece.
                for at, piece in enumerate(pieces_of(text)):
                    self.assertIn(piece, [one[8 * at:8 * at + 8] for one in texts])
                self.assertIn(len(text), [len(one) for one in texts])
        self.assertGreater(many, 100)

    def test_quiet_from_the_first_peer_on_a_plain_book_tells_the_same(self):
        for seed in SEEDS:
            history, book = Deeds(seed + 5000), Book()
            self.calm(history, {key: None for key in KEYS}, book)

    def test_quiet_behind_a_rest(self):
        many = 0
        for seed in SEEDS:
            history = Deeds(seed + 6000)
            net = history.deeds(20)
            net.heal()
            for name in net.names():
                # Who lies by steps is passed over behind three wrongs, and then no piece is asked of it.
                net.lie(name, None)
            if not net.standing() or not is_whole(net):
                continue
            net.rest(history.order())
            texts = {}
            lacks = False
            for key in KEYS:
                try:
                    texts[key] = found(net, net.standing()[0], key)
                except Lacks:
                    # A piece was lost ahead of the rest, with those who forgot.
                    lacks = True
            if not lacks:
                many += 1
                self.calm(history, texts, None)
        self.assertGreater(many, 30)

    def calm(self, history, texts, book):
        """Deeds that leave a net quiet, puts, and finds of what was put last, by anybody."""
        net, chance = history.net, history.chance
        stopped = 0
        for _ in range(25):
            name, key = chance.choice(net.standing()), chance.choice(KEYS)
            word = chance.choice("enter enter leave stop turn round say come put put put find find find".split())
            if word == "put":
                text = chance.choice(TEXTS)
                card = put(net, name, key, text)[0]
                texts[key] = text
                if book is not None and (text is not None or key in book.keys_of()):
                    told = book.take(key, by=name) if text is None else book.put(key, text, by=name)
                    self.assertEqual(told[2:], card[2:])
            elif word == "find":
                self.assertIn(found(net, name, key), self.alike(texts[key]))
            elif word == "stop" and len(net) > 1 and stopped + 1 < net.copies():
                stopped += 1
                history.do_stop(name)
            elif word == "enter":
                new = chance.choice(NAMES)
                if new not in net.names():
                    net.enter(new, name, history.places[new])
            elif word == "come":
                if net.under_way():
                    history.do_flow(name)
            elif word not in ("stop", "leave") or word == "leave" and len(net) > 1:
                getattr(history, "do_" + word)(name)
        if book is not None:
            self.assertEqual(book.keys_of(), [key for key in sorted(texts) if texts[key] is not None])
        for name in net.standing():
            for key in KEYS:
                self.assertIn(found(net, name, key), self.alike(texts[key]))

    def alike(self, text):
        """The texts of the same marks among those that are put."""
        return ("bdb", "cbc") if text in ("bdb", "cbc") else (text,)

    def test_one_keeper_that_gives_each_piece_right_is_enough(self):
        for seed in SEEDS:
            history = Deeds(seed + 7000)
            net = history.net
            for name in NAMES[1:6]:
                net.enter(name, "ada", history.places[name])
            text = "a text of some more pieces"
            card = put(net, "ada", "key", text)[0]
            net.rest()
            circle = circle_of(net, net.standing())
            liar = history.chance.choice(net.standing())
            net.lie(liar, "pieces")
            for name in net.standing():
                others = [one for one in circle.names() if one not in (name, liar)]
                right = all([any([at in net.peer(one).pieces("key") for one in others]) or at in net.peer(name).pieces("key")
                             for at in range(len(card[3]))])
                if right:
                    self.assertEqual(found(net, name, "key"), text)
                    # Who never did wrong is never passed over.
                    self.assertLessEqual(set(net.peer(name).wrongs()), {liar})


class Whole(unittest.TestCase):
    def test_a_peer_is_what_its_log_makes_of_it(self):
        for seed in SEEDS:
            net = Deeds(seed + 8000).deeds(60)
            for name in net.names():
                peer = net.peer(name)
                self.assertEqual((peer_of(peer.log()), peer_of(peer.log()).log()), (peer, peer.log()))

    def test_with_all_names_called_otherwise_all_is_told_likewise(self):
        called = dict(zip(NAMES, ["b", "bb", "cab", "dog", "door", "x", "xy", "zzzzzzzz"]))

        def otherwise(thing):
            if isinstance(thing, (tuple, list)):
                return type(thing)(otherwise(part) for part in thing)
            return called.get(thing, thing) if isinstance(thing, str) else thing

        for seed in SEEDS[:60]:
            one, other = Deeds(seed + 9000), Deeds(seed + 9000, called)
            net, called_net = one.deeds(60), other.deeds(60)
            self.assertEqual(otherwise(net.marks()), called_net.marks())
            self.assertEqual(otherwise(net.deeds()), called_net.deeds())
            self.assertEqual(otherwise(net.under_way()), called_net.under_way())
            self.assertEqual([otherwise(pair) for pair in one.found], other.found)
            for name in net.names():
                self.assertEqual(otherwise(net.peer(name).log()), called_net.peer(called[name]).log())

    def test_sides_that_were_cut_and_healed_are_one_and_have_the_greater_cards(self):
        for seed in SEEDS:
            history = Deeds(seed + 10000)
            net = Cries(history.chance.randint(1, 4))
            history.net = net
            net.begin("ada", 0)
            for name in NAMES[1:6]:
                net.enter(name, "ada", history.places[name])
            names = list(NAMES[:6])
            history.chance.shuffle(names)
            net.cut([names[:3], names[3:]])
            net.rest()
            cards = {}
            for side in (names[:3], names[3:]):
                for _ in range(6):
                    card = put(net, history.chance.choice(side), history.chance.choice(KEYS), history.chance.choice(TEXTS))[0]
                    cards.setdefault(card[0], []).append(card)
                # Each side goes on as a net by itself.
                self.assertEqual(net.peer(side[0]).circle(), circle_of(net, side))
            said = [net.say(names[0], "here"), net.say(names[5], "there")]
            net.heal()
            net.rest()
            for name in names:
                self.assertEqual(net.peer(name).circle(), circle_of(net, names))
                self.assertEqual(sorted(net.heard(name)), sorted(said))
                for key, some in cards.items():
                    best = max(some, key=lambda one: (one[1], one[2], one[3] is not None, one[3] or ()))
                    self.assertEqual(look(net, name, key)[0], best)


if __name__ == "__main__":
    unittest.main()
