"""Point 87: a peer of a net fetches a card."""

import inspect
import unittest

from peersmeet import fetching
from peersmeet.errors import Down, Lacks, NoCard, NoNet, NoPeer
from peersmeet.fetching import fetch_in
from peersmeet.fetchpapers import shows_fetch
from peersmeet.looks import put
from peersmeet.nets import Net
from peersmeet.things import card_of, is_card, pieces_of
from tests.refusals import RefusalCase
from tests.test_nets import CARD, PLACES, TEXT, give, net_of_peers

ALL = tuple(PLACES)
PIECES = pieces_of(TEXT)
# Round: eve 10, fay 20, ada 50, dan 100, ben 150, gil 200, cy 240, hal 255; what each keeps of CARD with two copies.
KEPT = {"eve": [0], "fay": [0], "ada": [1], "dan": [1, 2], "ben": [2, 3, 4], "gil": [3, 4, 5, 6],
        "cy": [5, 6, 7], "hal": [7]}


class FetchCase(RefusalCase):
    def setUp(self):
        self.net = net_of_peers(*ALL)

    def spread(self, card=CARD, text=TEXT):
        """Each keeper has just what is its own."""
        for name, numbers in KEPT.items():
            give(self.net, name, card, [at for at in numbers if at < len(pieces_of(text))], text)

    def same(self, ahead):
        self.assertEqual((self.net, self.net.deeds()), (ahead, ahead.deeds()))
        for name in ahead.names():
            self.assertEqual(self.net.peer(name).log(), ahead.peer(name).log())

    def stays(self, call, *things):
        """A refused call changes nothing, deeds and logs neither."""
        ahead = self.net.copied()
        self.refusal(call, *things)
        self.same(ahead)

    def behind(self, name, many):
        return self.net.peer(name).log()[-many:]


class Fetches(FetchCase):
    def fetch(self, name, card=CARD):
        """What a fetch tells; its paper is shown, and its deed is noted."""
        deeds = self.net.deeds()
        text, paper = fetch_in(self.net, name, card)
        self.assertEqual(self.net.deeds(), deeds + [("fetch", name, card)])
        self.assertIs(type(paper), tuple)
        one, claims, had, seen, rows = paper
        self.assertEqual([one, type(claims), type(had), type(seen), type(rows)], [card, dict, dict, dict, list])
        self.assertIs(shows_fetch(one, claims, rows, had=had, seen=seen), True)
        return text, claims, had, seen, rows

    def test_name_and_arguments(self):
        self.assertEqual(str(inspect.signature(fetch_in)), "(net, name, card)")
        self.assertEqual(fetch_in.__module__, fetching.__name__)

    def test_those_that_keep_some_piece_are_asked_round_from_the_one_behind(self):
        self.spread()
        ahead = self.net.copied()
        text, claims, had, seen, rows = self.fetch("dan")
        self.assertEqual(text, TEXT)
        self.assertEqual(list(claims.items()), [(name, KEPT[name]) for name in
                                                ("ben", "gil", "cy", "hal", "eve", "fay", "ada")])
        self.assertEqual((had, seen), ({1: PIECES[1], 2: PIECES[2]}, {}))
        self.assertEqual(rows, [
            (0, "eve", 0, PIECES[0], "right"), (0, "ben", 3, PIECES[3], "right"), (0, "gil", 4, PIECES[4], "right"),
            (0, "cy", 5, PIECES[5], "right"), (0, "hal", 7, PIECES[7], "right"), (1, "gil", 6, PIECES[6], "right")])
        self.assertEqual(self.net, ahead)

    def test_just_those_that_keep_some_piece(self):
        # The card of `a` is kept at 232 by cy and hal, its first piece at 8 by eve and fay.
        card = card_of("a", 1, "ada", text="short")
        for name in ALL:
            give(self.net, name, card, [0], "short")
        for name, asked in (("dan", ["eve", "fay"]), ("eve", ["fay"]), ("fay", ["eve"]), ("hal", ["eve", "fay"])):
            if name == "dan":
                self.net.peer_here("dan").lets_go("a", 0)
            text, claims, had, _, rows = self.fetch(name, card)
            self.assertEqual((text, list(claims)), ("short", asked))
            self.assertEqual(had, {} if name == "dan" else {0: "short"})
            self.assertEqual(rows, [(0, "eve", 0, "short", "right")] if name == "dan" else [])

    def test_by_its_own_circle(self):
        self.spread()
        # Without eve and fay the first piece is kept by ada and dan.
        dan = self.net.peer_here("dan")
        for name in ("eve", "fay"):
            dan.silent(name)
        give(self.net, "ada", numbers=[0])
        text, claims, _, _, rows = self.fetch("dan")
        self.assertEqual((text, list(claims)), (TEXT, ["ben", "gil", "cy", "hal", "ada"]))
        self.assertEqual(claims["ada"], [0, 1])
        self.assertIn((0, "ada", 0, PIECES[0], "right"), rows)

    def test_a_card_without_pieces(self):
        card = card_of("a", 1, "ada", text="")
        self.assertEqual(self.fetch("ada", card), ("", {}, {}, {}, []))
        # One that is down isn't even asked.
        self.net.stop("eve")
        self.fetch("ada", card)
        self.assertEqual(self.net.peer("ada").word("eve"), "here")

    def test_one_that_does_not_answer_is_silent_in_its_view(self):
        for deed in (lambda: self.net.stop("ben"), lambda: self.net.lie("ben", "silence"),
                     lambda: self.net.cut([["ben"], [name for name in ALL if name != "ben"]])):
            self.setUp()
            self.spread()
            deed()
            text, claims, _, _, _ = self.fetch("dan")
            self.assertEqual((text, list(claims)), (TEXT, ["gil", "cy", "hal", "eve", "fay", "ada"]))
            self.assertEqual(self.behind("dan", 1), [("silent", "ben")])
            self.assertEqual(self.net.peer("dan").word("ben"), "silent")
            self.assertEqual(self.net.peer("eve").word("ben"), "here")
            # From then on it is none of its circle.
            self.fetch("dan")
            self.assertEqual(self.behind("dan", 1), [("silent", "ben")])

    def test_several_that_do_not_answer(self):
        self.spread()
        for name in ("fay", "ben"):
            self.net.stop(name)
        self.assertEqual(self.fetch("dan")[0], TEXT)
        self.assertEqual(self.behind("dan", 2), [("silent", "ben"), ("silent", "fay")])

    def test_a_peer_that_lies_by_silence_hears_nobody(self):
        self.spread()
        self.net.lie("dan", "silence")
        deeds = self.net.deeds()
        self.refused_with(Lacks, {"found": [0, 3, 4, 5, 6, 7]}, fetch_in, self.net, "dan", CARD)
        self.assertEqual(self.behind("dan", 7), [("silent", name) for name in
                                                 ("ben", "gil", "cy", "hal", "eve", "fay", "ada")])
        self.assertEqual(self.net.deeds(), deeds + [("fetch", "dan", CARD)])

    def test_those_that_it_passes_over_are_not_asked(self):
        self.spread()
        for _ in range(3):
            self.net.peer_here("dan").saw("gil")
        self.net.stop("gil")
        give(self.net, "cy", numbers=range(8))
        text, claims, _, seen, _ = self.fetch("dan")
        self.assertEqual((text, list(claims), seen), (TEXT, ["ben", "cy", "hal", "eve", "fay", "ada"], {}))
        self.assertEqual(self.net.peer("dan").word("gil"), "here")

    def test_pieces_of_this_very_card(self):
        other = card_of("a", 4, "ada", text=TEXT)
        for name in KEPT:
            give(self.net, name, other if name in ("gil", "dan") else CARD, KEPT[name])
        give(self.net, "ben", numbers=range(8))
        text, claims, had, _, _ = self.fetch("dan")
        self.assertEqual((text, claims["gil"], had), (TEXT, [], {}))
        self.assertEqual(self.net.peer("dan").card("a"), other)

    def test_one_that_lies_by_pieces_claims_all_and_gives_otherwise(self):
        card = card_of("a", 1, "ada", text="abcdefghbbbbbbbb" + "x")
        # The pieces lie at 8, 40 and 72: kept by eve and fay, ada and dan, dan and ben.
        give(self.net, "eve", card, [0, 1], "abcdefghbbbbbbbbx")
        give(self.net, "fay", card, [0, 1, 2], "abcdefghbbbbbbbbx")
        self.net.lie("eve", "pieces")
        text, claims, _, seen, rows = self.fetch("ada", card)
        self.assertEqual((text, seen), ("abcdefghbbbbbbbbx", {}))
        self.assertEqual(list(claims.items()), [("dan", []), ("ben", []), ("eve", [0, 1, 2]), ("fay", [0, 1, 2])])
        self.assertEqual(rows, [
            (0, "eve", 0, "bbcdefgh", "wrong"), (0, "fay", 1, "bbbbbbbb", "right"),
            (1, "fay", 0, "abcdefgh", "right"), (1, "eve", 2, "lie", "wrong"), (2, "fay", 2, "x", "right")])
        self.assertEqual(self.net.peer("ada").wrongs(), {"eve": (2, 5)})
        self.assertEqual(self.behind("ada", 2), [("saw", "eve")] * 2)

    def test_first_signs_of_one_that_lies(self):
        self.net.lie("eve", "pieces")
        for text, given in (("b", "a"), ("a", "b"), ("ab", "bb"), (" x", "ax"), ("12345678", "a2345678")):
            card = card_of("a", 1, "ada", text=text)
            give(self.net, "eve", card, [0], text)
            # Asked alone it makes one wrong, and is asked no more.
            self.refused_with(Lacks, {"found": [0]}, fetch_in, self.net, "ada", card)
            self.assertEqual(self.net.peer("ada").wrongs(), {"eve": (1, 5)})
            self.net.peer_here("ada").has_turn()
            for _ in range(4):
                self.net.peer_here("ada").has_turn()
            self.assertEqual(self.net.peer("ada").wrongs(), {})
            give(self.net, "fay", card, [0], text)
            rows = self.fetch("ada", card)[4]
            self.assertEqual(rows, [(0, "eve", 0, given, "wrong"), (1, "fay", 0, text, "right")])
            self.setUp()
            self.net.lie("eve", "pieces")

    def test_a_lie_that_happens_to_be_right(self):
        card = card_of("a", 1, "ada", text="lie")
        self.net.lie("eve", "pieces")
        self.assertEqual(self.fetch("ada", card), ("lie", {"eve": [0], "fay": []}, {}, {}, [(0, "eve", 0, "lie", "right")]))
        # It has another card of the key.
        give(self.net, "eve", card_of("a", 2, "ada", text="x"), [0], "x")
        self.assertEqual(self.fetch("ada", card)[4], [(0, "eve", 0, "lie", "right")])
        give(self.net, "eve", card_of("a", 3, "ada", text="lie"), [0], "lie")
        self.refused_with(Lacks, {"found": [0]}, fetch_in, self.net, "ada", card_of("a", 3, "ada", text="lie"))

    def test_who_lies_by_steps_gives_as_it_has_it(self):
        self.spread()
        for name in ALL:
            self.net.lie(name, "steps")
        self.assertEqual(self.fetch("dan")[0], TEXT)
        self.assertEqual(self.net.peer("dan").wrongs(), {})

    def test_a_fetching_peer_that_lies_by_pieces(self):
        self.spread()
        self.net.lie("dan", "pieces")
        self.assertEqual(self.fetch("dan")[0], TEXT)

    def test_wrongs_seen_ahead_in_the_order_of_the_claims(self):
        self.spread()
        dan = self.net.peer_here("dan")
        for name in ("ada", "gil", "gil", "zoe", "ben", "dan"):
            dan.saw(name)
        _, claims, _, seen, _ = self.fetch("dan")
        self.assertEqual(list(seen.items()), [("ben", 1), ("gil", 2), ("ada", 1)])
        self.assertEqual([name for name in claims if name in seen], list(seen))

    def test_a_third_wrong_since_those_seen_ahead(self):
        # fay and ada have all pieces, hal too, but lies; two wrongs of it were seen ahead.
        for name in ("fay", "ada", "hal"):
            give(self.net, name)
        self.net.lie("hal", "pieces")
        dan = self.net.peer_here("dan")
        for _ in range(2):
            dan.saw("hal")
        text, _, _, seen, rows = self.fetch("dan")
        self.assertEqual((text, seen), (TEXT, {"hal": 2}))
        self.assertEqual([row[1:3] + row[4:] for row in rows if row[1] == "hal"], [("hal", 0, "wrong")])
        self.assertEqual(self.net.peer("dan").wrongs(), {"hal": (3, 5)})
        self.assertEqual(list(self.fetch("dan")[1]), ["ben", "gil", "cy", "eve", "fay", "ada"])

    def test_pieces_that_lack(self):
        self.spread()
        self.net.stop("eve")
        self.net.stop("fay")
        self.net.lie("ada", "pieces")
        deeds = self.net.deeds()
        error = self.refusal(fetch_in, self.net, "dan", CARD)
        self.assertIs(type(error), Lacks)
        self.assertEqual((error.found, type(error.found)), ([0], list))
        # What was seen and heard stays, and the deed is noted.
        self.assertEqual(self.behind("dan", 3), [("silent", "eve"), ("silent", "fay"), ("saw", "ada")])
        self.assertEqual(self.net.deeds(), deeds + [("fetch", "dan", CARD)])
        error.found.append(5)
        self.refused_with(Lacks, {"found": [0]}, fetch_in, self.net, "dan", CARD)

    def test_nobody_has_it(self):
        self.refused_with(Lacks, {"found": list(range(8))}, fetch_in, self.net, "dan", CARD)
        alone = self.net = net_of_peers("ada")
        self.refused_with(Lacks, {"found": list(range(8))}, fetch_in, alone, "ada", CARD)
        give(alone, "ada", numbers=[0, 3])
        self.refused_with(Lacks, {"found": [1, 2, 4, 5, 6, 7]}, fetch_in, alone, "ada", CARD)
        give(alone, "ada")
        self.assertEqual(self.fetch("ada"), (TEXT, {}, dict(enumerate(PIECES)), {}, []))

    def test_what_was_put_is_fetched_by_all(self):
        card = put(self.net, "ben", "key", "some text of several pieces")[0]
        for name in ALL:
            self.assertEqual(self.fetch(name, card)[0], "some text of several pieces")


class Refused(FetchCase):
    def test_in_the_order_of_the_interface(self):
        net = self.net
        self.refuses_all_but(NoNet, lambda thing: isinstance(thing, Net), lambda thing: fetch_in(thing, None, None))
        self.refuses_all_but(NoPeer, net.has, lambda thing: fetch_in(net, thing, None))
        net.stop("ben")
        self.refuses_all_but(NoCard, lambda thing: is_card(thing) and thing[3] is not None,
                             lambda thing: fetch_in(net, "ben", thing))
        self.refused_with(NoPeer, {"found": "zoe"}, fetch_in, net, "zoe", CARD)
        away = card_of("a", 1, "b")
        self.refused(NoCard, away, fetch_in, net, "ada", away)
        self.refused_with(Down, {"found": "ben"}, fetch_in, net, "ben", CARD)
        net.leave("cy")
        self.refused_with(Down, {"found": "cy"}, fetch_in, net, "cy", CARD)
        for things in ((None, CARD), ("zoe", CARD), ("ada", away), ("ada", list(CARD)), ("ben", CARD)):
            self.stays(fetch_in, net, *things)

    def test_what_is_told_may_be_changed(self):
        self.spread()
        ahead = self.net.copied()
        told = fetch_in(self.net, "dan", CARD)
        again = fetch_in(self.net, "dan", CARD)
        self.assertEqual(told, again)
        _, claims, had, seen, rows = told[1]
        for thing in [*claims.values(), claims, had, seen, rows]:
            thing.clear()
        self.assertEqual(fetch_in(self.net, "dan", CARD), again)
        self.assertEqual(self.net, ahead)


if __name__ == "__main__":
    unittest.main()
