"""Point 88: a peer finds a key, and the papers of it."""

import inspect
import unittest

from peersmeet import finds
from peersmeet.errors import Away, Down, Lacks, NoName, NoNet, NoPaper, NoPeer, NotFound
from peersmeet.fetching import fetch_in
from peersmeet.finds import find_in, shows_find, text_shown
from peersmeet.looks import look, put
from peersmeet.marks import is_name
from peersmeet.nets import Net
from peersmeet.things import card_of
from tests.histories import KEYS, Deeds
from tests.refusals import any_things
from tests.test_fetching import ALL, FetchCase
from tests.test_nets import CARD, TEXT, give, net_of_peers


class Finds(FetchCase):
    def test_names_and_arguments(self):
        for call, form in ((find_in, "(net, asker, key)"), (shows_find, "(thing)"), (text_shown, "(paper)")):
            self.assertEqual((str(inspect.signature(call)), call.__module__), (form, finds.__name__))

    def test_it_looks_and_fetches(self):
        for text in ("", "a", "some text of several pieces", TEXT):
            card = put(self.net, "ben", "a", text)[0]
            for name in ALL:
                ahead = self.net.copied()
                told, paper = find_in(self.net, name, "a")
                self.assertEqual(self.net.deeds(), ahead.deeds() + [("find", name, "a")])
                self.assertEqual(paper, (look(ahead, name, "a")[1], fetch_in(ahead, name, card)[1]))
                self.assertEqual((told, type(paper)), (text, tuple))
                self.assertEqual((shows_find(paper), text_shown(paper)), (True, text))

    def test_it_passes_over_whom_the_look_saw_doing_wrong(self):
        self.spread()
        self.net.lie("gil", "steps")
        for name in ("ben", "cy"):
            give(self.net, name)
        for _ in range(2):
            self.net.peer_here("ada").saw("gil")
        text, paper = find_in(self.net, "ada", "a")
        self.assertEqual((text, text_shown(paper)), (TEXT, TEXT))
        self.assertEqual(self.net.peer("ada").wrongs(), {"gil": (3, 5)})
        self.assertNotIn("gil", paper[1][1])

    def test_not_found(self):
        self.net.lie("gil", "steps")
        deeds = self.net.deeds()
        key = "".join(["a"])
        self.refused(NotFound, key, find_in, self.net, "ada", key)
        # What the look saw stays, and the deed is noted.
        self.assertEqual(self.net.peer("ada").wrongs(), {"gil": (1, 5)})
        self.assertEqual(self.net.deeds(), deeds + [("find", "ada", "a")])

    def test_taken_away(self):
        put(self.net, "ben", "a", TEXT)
        put(self.net, "ben", "a", None)
        self.net.lie("gil", "steps")
        deeds = self.net.deeds()
        self.refused(Away, "a", find_in, self.net, "ada", "a")
        self.assertEqual(self.net.peer("ada").wrongs(), {"gil": (1, 5)})
        self.assertEqual(self.net.deeds(), deeds + [("find", "ada", "a")])

    def test_pieces_that_lack(self):
        put(self.net, "ben", "a", "x" * 60)
        for name in ("dan", "ben"):
            self.net.stop(name)
        self.net.lie("eve", "pieces")
        deeds = self.net.deeds()
        self.refused_with(Lacks, {"found": [2]}, find_in, self.net, "gil", "a")
        self.assertEqual(self.net.peer("gil").word("dan"), "silent")
        self.assertEqual(self.net.peer("gil").wrongs(), {"eve": (1, 5)})
        self.assertEqual(self.net.deeds(), deeds + [("find", "gil", "a")])

    def test_refused_as_a_look(self):
        net = self.net
        self.refuses_all_but(NoNet, lambda thing: isinstance(thing, Net), lambda thing: find_in(thing, None, None))
        self.refuses_all_but(NoPeer, net.has, lambda thing: find_in(net, thing, ""))
        net.stop("ben")
        self.refuses_all_but(NoName, is_name, lambda thing: find_in(net, "ben", thing))
        self.refused_with(Down, {"found": "ben"}, find_in, net, "ben", "a")
        for things in ((None, "a"), ("zoe", "a"), ("ada", "A"), ("ben", "a")):
            self.stays(find_in, net, *things)

    def test_what_is_told_may_be_changed(self):
        put(self.net, "ben", "a", TEXT)
        again = find_in(self.net, "ada", "a")
        _, claims, had, seen, rows = find_in(self.net, "ada", "a")[1][1]
        for thing in [*claims.values(), claims, had, seen, rows]:
            thing.clear()
        self.assertEqual(find_in(self.net, "ada", "a"), again)


class Papers(FetchCase):
    def setUp(self):
        FetchCase.setUp(self)
        net = self.net
        self.card = put(net, "ben", "a", TEXT)[0]
        net.lie("eve", "pieces")
        net.stop("cy")
        net.peer_here("dan").saw("fay")
        # In the paper are claims, some that is had, wrongs that were seen, and rows of all words.
        self.paper = find_in(net, "dan", "a")[1]
        self.look_paper, (_, self.claims, self.had, self.seen, self.rows) = self.paper

    def made(self, **parts):
        """The paper with some parts of the fetch's otherwise."""
        names = ("card", "claims", "had", "seen", "rows")
        had = {name: getattr(self, name) for name in names} | parts
        return (self.look_paper, tuple(had[name] for name in names))

    def not_shown(self, paper):
        self.assertIs(shows_find(paper), False, paper)
        self.refused(NoPaper, paper, text_shown, paper)

    def test_as_told(self):
        self.assertEqual(self.made(), self.paper)
        self.assertEqual((shows_find(self.paper), text_shown(self.paper)), (True, TEXT))
        self.assertTrue(self.had and self.seen and "wrong" in [row[4] for row in self.rows])
        # A list that was told may be handed in as a tuple.
        claims = {name: tuple(numbers) for name, numbers in self.claims.items()}
        self.assertEqual(text_shown(self.made(claims=claims, rows=tuple(self.rows))), TEXT)
        self.assertEqual(self.made(), self.paper)

    def test_papers_of_all_nets_are_shown(self):
        many = 0
        for seed in range(60):
            history = Deeds(seed)
            net = history.deeds(60)
            for name in net.standing():
                for key in KEYS:
                    try:
                        text, paper = find_in(net, name, key)
                    except (NotFound, Away, Lacks):
                        continue
                    many += 1
                    self.assertEqual(text_shown(paper), text)
                    self.assertNotIn(name, paper[1][1])
        self.assertGreater(many, 40)

    def test_any_things(self):
        for thing in any_things() + [list(self.paper), self.paper[:1], self.paper + (None,), self.paper[1],
                                     self.look_paper, (self.look_paper, list(self.paper[1]))]:
            self.not_shown(thing)
            if thing is not self.look_paper:
                self.not_shown((thing, self.paper[1]))
            if thing is not self.paper[1]:
                self.not_shown((self.look_paper, thing))

    def test_each_part_of_another_kind(self):
        for name in ("card", "claims", "had", "seen", "rows"):
            for thing in any_things() + [list(self.card)]:
                # Wrongs that were seen of others, or none, lead to the same rows.
                if name != "seen" or thing not in ({}, {"a": 1}):
                    self.not_shown(self.made(**{name: thing}))

    def test_the_greatest_card_told_in_the_look(self):
        for card in (CARD, card_of("a", 2, "ben", text=TEXT), card_of("b", 1, "ben", text=TEXT), ("a", True, "ben", CARD[3]),
                     card_of("a", 1, "ben"), card_of("a", 1, "ben", text=TEXT[:-1])):
            self.not_shown(self.made(card=card))
        key, paper, told = self.look_paper
        others = [
            (key, paper, tuple((name, None) for name, _ in told)),
            (key, paper, tuple((name, card_of("a", 1, "ben")) for name, _ in told)),
            (key, paper, ((told[0][0], card_of("a", 1, "ben", text="other")),) + told[1:]),
            (key, paper, told[:1]), ("b", paper, told), (key, paper, list(told)),
        ]
        for other in others[2:]:
            self.not_shown((other, self.paper[1]))
        for other in others[:2]:
            # One who told of none, or of a lesser one, beside one who told of the greatest.
            mixed = (key, paper, other[2][:1] + told[1:])
            self.assertIs(shows_find((mixed, self.paper[1])), True)
            self.not_shown((other, self.paper[1]))
        self.assertEqual(len(told), 2)

    def test_the_asker_claims_nothing(self):
        self.not_shown(self.made(claims=self.claims | {"dan": []}))
        self.assertIs(shows_find(self.made(claims=self.claims | {"zoe": []})), True)

    def test_rows_that_are_left_out_or_told_otherwise(self):
        for at, row in enumerate(self.rows):
            self.not_shown(self.made(rows=self.rows[:at] + self.rows[at + 1:]))
            self.not_shown(self.made(rows=self.rows[:at] + [row] + self.rows[at:]))
            for part, thing in enumerate((row[0] + 1, "zoe", (row[2] + 1) % 8, "otherwis", "silent")):
                if thing != row[part] and not (row[4] == "wrong" and part == 3):
                    self.not_shown(self.made(rows=self.rows[:at] + [row[:part] + (thing,) + row[part + 1:]]
                                             + self.rows[at + 1:]))
        self.not_shown(self.made(rows=[]))

    def test_pieces_that_lack_at_the_end(self):
        nobody = {name: [] for name in self.claims}
        self.not_shown(self.made(claims=nobody, rows=[]))
        pieces = {at: TEXT[8 * at:8 * at + 8] for at in range(8)}
        self.assertEqual(text_shown(self.made(claims=nobody, had=pieces, rows=[])), TEXT)
        del pieces[3]
        self.not_shown(self.made(claims=nobody, had=pieces, rows=[]))

    def test_what_is_had_and_was_seen(self):
        self.not_shown(self.made(had={1: "wrong"}))
        self.not_shown(self.made(had={}))
        self.not_shown(self.made(had={**self.had, 8: "x"}))
        self.not_shown(self.made(seen={"eve": 3}))
        self.not_shown(self.made(seen={"eve": None}))
        # A find tells dicts, where a Fetch takes None, too.
        for name in ("had", "seen"):
            self.not_shown(self.made(**{name: None}))

    def test_papers_that_are_handed_in_stay(self):
        ahead = repr(self.paper)
        shows_find(self.paper)
        text_shown(self.paper)
        self.assertEqual(repr(self.paper), ahead)

    def test_a_text_without_pieces(self):
        alone = net_of_peers("ada")
        put(alone, "ada", "b", "")
        paper = find_in(alone, "ada", "b")[1]
        self.assertEqual(paper[1], (("b", 1, "ada", ()), {}, {}, {}, []))
        self.assertEqual((shows_find(paper), text_shown(paper)), (True, ""))


if __name__ == "__main__":
    unittest.main()
