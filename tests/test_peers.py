"""Points 51 to 55 and 57, and of 56 how a peer goes on: peers, their logs, copies and marks."""

import inspect
import itertools
import unittest

from peersmeet import peers
from peersmeet.circles import Circle
from peersmeet.errors import NoCard, NoLog, NoName, NoNumber, NoPiece, NoPlace, NoRow, NoWord
from peersmeet.errors import NotThere, Taken, TooMany
from peersmeet.marks import is_name, is_place
from peersmeet.peers import Peer, is_row, is_said
from peersmeet.stores import Store
from peersmeet.things import card_of, is_card
from peersmeet.views import View
from tests.refusals import RefusalCase, any_things

BORN = ("born", "me", 7)
CARD = card_of("key", 3, "ada", text="12345678abc")
SAID = ("ben", 2, 1, "a word")

# One row of each form, with the parts at their bounds.
ROWS = [
    BORN, ("born", "abcdefgh", 0), ("born", "a", 255),
    ("heard", "a", 0, 1, "here"), ("heard", "abcdefgh", 255, 10 ** 29, "silent"), ("heard", "a", 1, 1, "gone"),
    ("silent", "a"), ("left",), ("back",),
    ("card", CARD), ("card", ("k", 1, "a", None)), ("card", ("k", 999999, "a", ())),
    ("piece", "k", 0, "x"), ("piece", "k", 7, "12345678"), ("less", "k", 0), ("less", "k", 7), ("dropped", "k"),
    ("forgot",), ("word", SAID), ("word", ("a", 1, 10 ** 29, "")), ("saw", "a"), ("turn",),
]
NO_ROWS = [
    (), ("born",), ("born", "me"), ("born", "me", 7, 1), ("born", "Me", 7), ("born", "me", 256), ("born", "me", True),
    ("heard", "a", 0, 0, "here"), ("heard", "a", 0, True, "here"), ("heard", "a", 0, 1, "Here"),
    ("heard", "", 0, 1, "here"), ("heard", "a", -1, 1, "here"), ("heard", "a", 0, 1), ("heard", "a", 0, 1, ["here"]),
    ("silent",), ("silent", "A"), ("silent", "a", "a"), ("left", "a"), ("back", None), ("card",), ("card", None),
    ("card", ("k", 0, "a", None)), ("card", list(CARD)), ("piece", "k", 8, "x"), ("piece", "k", -1, "x"),
    ("piece", "k", False, "x"), ("piece", "k", 0, ""), ("piece", "k", 0, "123456789"), ("piece", "k", 0, "\n"),
    ("piece", "k", 0, None), ("piece", "K", 0, "x"), ("less", "k", 8), ("less", "k", "0"), ("less", "k"),
    ("dropped",), ("dropped", "abcdefghi"), ("forgot", True), ("word",), ("word", "a word"), ("word", list(SAID)),
    ("saw", None), ("turn", 1), ("said", SAID), ("Born", "me", 7), ["left"], "left", ("left ",), (None,), (("left",),),
    (["left"],), ({},), ("heard", "a b", 0, 1, "here"), ("piece", "a b", 0, "x"), ("less", "a b", 0),
    ("dropped", "a b"), ("saw", "a b"), ("silent", "a b"), ("born", "a b", 7),
]


class PeerCase(RefusalCase):
    def setUp(self):
        self.peer = Peer("me", 7)

    def rows(self):
        """What the log has behind the peer's birth."""
        self.assertEqual(self.peer.log()[0], BORN)
        return self.peer.log()[1:]

    def with_all(self):
        """A peer that has something of everything."""
        peer = Peer("me", 7)
        peer.hears("you", 9, 2, "here")
        peer.takes(CARD)
        peer.takes_piece("key", 0, "12345678")
        peer.takes(("away", 1, "me", None))
        peer.hears_word(SAID)
        peer.saw("you")
        return peer


class Made(PeerCase):
    def test_names_and_methods_of_its_own(self):
        told = {
            "__init__": "(self, name, place)", "hears": "(self, name, place, number, word)", "word": "(self, name)",
            "silent": "(self, name)", "takes": "(self, card)", "takes_piece": "(self, key, at, piece)",
            "lets_go": "(self, key, at)", "drops": "(self, key)", "card": "(self, key)", "pieces": "(self, key)",
            "hears_word": "(self, word)", "saw": "(self, name)", "passes_over": "(self, name)",
            "goes_on": "(self, rows)", "__eq__": "(self, other)",
        }
        alone = "name place number known circle leaves comes_back forgets cards words has_turn wrongs log copied marks"
        told.update({name: "(self)" for name in alone.split() + ["__len__", "__repr__"]})
        for name, form in told.items():
            self.assertEqual(str(inspect.signature(vars(Peer)[name])), form)
        self.assertEqual((is_said.__module__, is_row.__module__, Peer.__module__), (peers.__name__,) * 3)

    def test_at_first(self):
        peer = self.peer
        self.assertEqual((peer.name(), peer.place(), peer.number()), ("me", 7, 1))
        self.assertEqual((peer.known(), peer.circle()), ([("me", 7, 1, "here")], Circle([("me", 7)])))
        self.assertEqual((peer.cards(), peer.words(), peer.wrongs()), ({}, [], {}))
        self.assertEqual((peer.log(), len(peer)), ([BORN], 1))
        self.assertIsInstance(repr(peer), str)

    def test_refused_in_the_order_of_the_interface(self):
        self.refuses_all_but(NoName, is_name, lambda thing: Peer(thing, "no"))
        self.refuses_all_but(NoPlace, is_place, lambda thing: Peer("me", thing))


class HearsOfPeers(PeerCase):
    def test_it_hears_as_its_view_does(self):
        peer, view = self.peer, View("me", 7)
        told = [("a", 9, 2, "here"), ("a", 9, 2, "here"), ("me", 7, 4, "silent"), ("b", 0, 1, "gone"), ("me", 7, 2, "gone")]
        for things in told:
            self.assertIs(peer.hears(*things), view.hear(*things))
        self.assertEqual(peer.known(), [("a", 9, 2, "here"), ("b", 0, 1, "gone"), ("me", 7, 5, "here")])
        self.assertEqual(peer.number(), 5)
        self.assertEqual(self.rows(), [("heard",) + told[0], ("heard",) + told[2], ("heard",) + told[3]])
        self.assertEqual(peer.circle(), Circle([("a", 9), ("me", 7)]))
        self.assertEqual([peer.word(name) for name in ("a", "b", "me")], ["here", "gone", "here"])

    def test_no_word_of_what_is_unknown(self):
        self.refuses_all_but(NotThere, lambda thing: False, self.peer.word)
        self.peer.hears("a", 1, 1, "gone")
        self.refuses_all_but(NotThere, lambda thing: isinstance(thing, str) and thing == "a", self.peer.word)

    def test_a_name_is_silent(self):
        self.peer.hears("a", 9, 2, "here")
        self.peer.hears("b", 9, 2, "gone")
        self.assertIs(self.peer.silent("a"), None)
        self.peer.silent("a")
        self.peer.silent("b")
        self.assertEqual((self.peer.word("a"), self.peer.word("b")), ("silent", "gone"))
        self.assertEqual(self.rows()[2:], [("silent", "a")])
        self.assertEqual(self.peer.circle(), Circle([("me", 7)]))
        self.refused(NotThere, self.peer.name(), self.peer.silent, self.peer.name())

    def test_it_leaves_and_comes_back(self):
        peer = self.peer
        self.assertIs(peer.leaves(), None)
        self.assertEqual((peer.known(), len(peer.circle())), ([("me", 7, 1, "gone")], 0))
        peer.leaves()
        self.assertEqual(self.rows(), [("left",)])
        self.assertIs(peer.comes_back(), None)
        self.assertEqual((peer.known(), peer.number()), ([("me", 7, 2, "here")], 2))
        peer.comes_back()
        self.assertEqual(self.rows(), [("left",), ("back",), ("back",)])
        self.assertEqual(peer.number(), 3)

    def test_it_leaves_where_it_was_silent(self):
        self.peer.leaves()
        self.peer.hears("me", 7, 2, "silent")
        self.peer.leaves()
        self.assertEqual(self.rows()[2:], [("left",)])

    def test_refused_as_its_view_does(self):
        peer = self.peer
        self.refuses_all_but(NoName, is_name, lambda thing: peer.hears(thing, 300, 0, "no"))
        self.refuses_all_but(NoPlace, is_place, lambda thing: peer.hears("a", thing, 0, "no"))
        self.refuses_all_but(NoNumber, lambda thing: type(thing) is int and thing > 0,
                             lambda thing: peer.hears("a", 1, thing, "no"))
        self.refuses_all_but(NoWord, lambda thing: False, lambda thing: peer.hears("a", 1, 1, thing))
        self.refuses_all_but(NotThere, lambda thing: False, peer.silent)
        self.assertEqual((peer, peer.log()), (Peer("me", 7), [BORN]))

    def test_numbers_however_great(self):
        self.assertIs(self.peer.hears("a", 9, 10 ** 29, "here"), True)
        self.assertIs(self.peer.hears("me", 7, 999998, "gone"), True)
        self.assertEqual(self.peer.number(), 999999)


class KeepsThings(PeerCase):
    def test_it_takes_as_its_store_does(self):
        peer, store = self.peer, Store()
        elder, newer = card_of("key", 2, "z", text="old"), card_of("key", 4, "a", text="new")
        for card in (elder, elder, CARD, elder):
            self.assertIs(peer.takes(card), store.take_in(card))
        for at, piece in ((1, "abc"), (1, "abc"), (0, "12345678")):
            self.assertIs(peer.takes_piece("key", at, piece), store.take_piece("key", at, piece))
        self.assertEqual((peer.card("key"), peer.card("no")), (CARD, None))
        self.assertEqual((peer.pieces("key"), peer.pieces("no")), ({0: "12345678", 1: "abc"}, {}))
        self.assertEqual(list(peer.pieces("key")), [0, 1])
        self.assertIs(peer.lets_go("key", 1), None)
        self.assertEqual(peer.pieces("key"), {0: "12345678"})
        peer.takes(newer)
        self.assertEqual((peer.card("key"), peer.pieces("key")), (newer, {}))
        self.assertIs(peer.drops("key"), None)
        self.assertEqual(peer.cards(), {})
        self.assertEqual(self.rows(), [
            ("card", elder), ("card", CARD), ("piece", "key", 1, "abc"), ("piece", "key", 0, "12345678"),
            ("less", "key", 1), ("card", newer), ("dropped", "key"),
        ])

    def test_cards_by_rising_keys(self):
        for key in ("zz", "b", "ab"):
            self.peer.takes((key, 1, "a", None))
        self.assertEqual(self.peer.cards(), {key: (key, 1, "a", None) for key in ("ab", "b", "zz")})
        self.assertEqual(list(self.peer.cards()), ["ab", "b", "zz"])

    def test_it_forgets(self):
        peer = self.with_all()
        ahead = peer.log()
        self.assertIs(peer.forgets(), None)
        self.assertEqual((peer.cards(), peer.pieces("key"), peer.words()), ({}, {}, []))
        self.assertEqual((peer.wrongs(), peer.word("you")), ({"you": (1, 5)}, "here"))
        peer.forgets()
        self.assertEqual(peer.log(), ahead + [("forgot",)])
        self.assertIs(peer.hears_word(SAID), True)
        peer.forgets()
        peer.takes(CARD)
        peer.forgets()
        self.assertEqual([row[0] for row in peer.log()[-4:]], ["word", "forgot", "card", "forgot"])

    def test_refused_as_its_store_does(self):
        peer = self.peer
        self.refuses_all_but(NoCard, is_card, peer.takes)
        self.refuses_all_but(NoName, is_name, lambda thing: peer.takes_piece(thing, None, None))
        self.refuses_all_but(NoName, is_name, lambda thing: peer.lets_go(thing, None))
        for call in (peer.drops, peer.card, peer.pieces):
            self.refuses_all_but(NoName, is_name, call)
        self.refused_with(NotThere, {"found": "key"}, peer.takes_piece, "key", 0, None)
        self.refused_with(NotThere, {"found": "key"}, peer.lets_go, "key", None)
        self.refused_with(NotThere, {"found": "key"}, peer.drops, "key")
        self.assertEqual(self.rows(), [])
        peer.takes(CARD)
        peer.takes_piece("key", 1, "abc")
        self.refuses_all_but(NoPiece, lambda thing: False, lambda thing: peer.takes_piece("key", 1, thing))
        self.refused_with(NoPiece, {"found": "abc"}, peer.takes_piece, "key", 0, "abc")
        self.refuses_all_but(NotThere, lambda thing: type(thing) is int and thing == 1,
                             lambda thing: peer.lets_go("key", thing))
        self.refused_with(Taken, {"found": "key"}, peer.drops, "key")
        for at in range(11):
            peer.takes(("abcdefghijk"[at], 1, "a", None))
        self.refused_with(TooMany, {"many": 13}, peer.takes, ("z", 1, "a", None))
        self.assertEqual(len(peer), 14)

    def test_pieces_at_their_bounds(self):
        text = "12345678" * 7 + "abcd"
        card = card_of("key", 999999, "abcdefgh", text=text)
        self.peer.takes(card)
        for at in range(8):
            self.assertIs(self.peer.takes_piece("key", at, text[8 * at:8 * at + 8]), True)
        self.assertEqual(list(self.peer.pieces("key")), list(range(8)))
        self.assertTrue(all(is_row(row) for row in self.peer.log()))


class HearsWords(PeerCase):
    def test_of_any_thing_it_is_told_whether_it_is_said(self):
        for thing in (SAID, ("a", 1, 1, ""), ("abcdefgh", 10 ** 29, 10 ** 29, "x" * 60)):
            self.assertIs(is_said(thing), True)
        parts = (("", "A", None), (0, -1, True, "1", None), (0, False, None), ("x" * 61, "\n", None, 5))
        for at, wrong in enumerate(parts):
            for part in wrong:
                self.assertIs(is_said(SAID[:at] + (part,) + SAID[at + 1:]), False)
        for thing in any_things() + [list(SAID), SAID[:3], SAID + (1,)]:
            self.assertIs(is_said(thing), False)

    def test_words_stand_in_the_order_in_which_they_were_first_heard(self):
        words = [("z", 1, 1, "b"), ("a", 2, 1, ""), ("a", 1, 1, "b"), ("a", 1, 1, "a")]
        for word in words:
            self.assertIs(self.peer.hears_word(word), True)
        for word in reversed(words):
            self.assertIs(self.peer.hears_word(word), False)
        self.assertEqual(self.peer.words(), words)
        self.assertEqual(self.rows(), [("word", word) for word in words])
        self.peer.forgets()
        self.assertIs(self.peer.hears_word(words[1]), True)
        self.assertEqual(self.peer.words(), [words[1]])

    def test_no_word(self):
        self.refuses_all_but(NoWord, is_said, self.peer.hears_word)
        self.refused_with(NoWord, {"found": ("a", 0, 1, "")}, self.peer.hears_word, ("a", 0, 1, ""))
        self.assertEqual(self.rows(), [])


class SeesWrongs(PeerCase):
    def test_it_saw_wrongs_and_passes_over(self):
        self.assertEqual([self.peer.saw(name) for name in ("b", "a", "b")], [1, 1, 2])
        self.assertEqual(self.peer.wrongs(), {"a": (1, 5), "b": (2, 5)})
        self.assertEqual(list(self.peer.wrongs()), ["a", "b"])
        self.assertIs(self.peer.passes_over("b"), False)
        self.assertEqual(self.peer.saw("b"), 3)
        self.assertIs(self.peer.passes_over("b"), True)
        for thing in any_things():
            self.assertIs(self.peer.passes_over(thing), False)
        self.assertEqual(self.rows(), [("saw", name) for name in "babb"])

    def test_turns_without_wrongs_write_no_row(self):
        self.assertEqual(self.peer.has_turn(), [])
        self.peer.saw("b")
        self.peer.saw("a")
        self.assertEqual([self.peer.has_turn() for _ in range(6)], [[], [], [], [], ["a", "b"], []])
        self.assertEqual(self.rows(), [("saw", "b"), ("saw", "a")] + [("turn",)] * 5)
        self.assertEqual(self.peer.wrongs(), {})

    def test_no_name(self):
        self.refuses_all_but(NoName, is_name, self.peer.saw)
        self.assertEqual((self.rows(), self.peer.wrongs()), ([], {}))


class Rows(PeerCase):
    def test_of_any_thing_it_is_told_whether_it_is_a_row(self):
        for row in ROWS:
            self.assertIs(is_row(row), True, row)
            self.assertIs(is_row(list(row)), False, row)
            self.assertIs(is_row(row + (1,)), False, row)
            self.assertIs(is_row(row[1:]), False, row)
        for thing in NO_ROWS + any_things():
            self.assertIs(is_row(thing), False, thing)

    def test_the_log_is_the_askers_own(self):
        self.peer.log().clear()
        self.assertEqual((self.peer.log(), len(self.peer)), ([BORN], 1))


class GoesOn(PeerCase):
    def test_rows_are_done_one_behind_the_other(self):
        rows = self.with_all().log()[1:]
        for handed in (rows, tuple(rows)):
            peer = Peer("me", 7)
            self.assertIs(peer.goes_on(handed), None)
            self.assertEqual((peer, peer.log()), (self.with_all(), self.with_all().log()))
        self.assertEqual(rows, self.with_all().log()[1:])

    def test_no_rows_change_nothing(self):
        self.peer.goes_on([])
        self.peer.goes_on(())
        self.assertEqual(self.peer.log(), [BORN])

    def test_each_row_that_can_be_done_is_done(self):
        rows = [
            ("heard", "a", 1, 1, "here"), ("silent", "a"), ("left",), ("back",), ("card", CARD),
            ("piece", "key", 1, "abc"), ("less", "key", 1), ("dropped", "key"), ("word", SAID), ("forgot",),
            ("saw", "a"), ("turn",),
        ]
        self.peer.goes_on(rows[:5])
        self.peer.goes_on(rows[5:])
        self.assertEqual(self.rows(), rows)
        self.assertEqual(self.peer.known(), [("a", 1, 1, "silent"), ("me", 7, 2, "here")])
        self.assertEqual((self.peer.cards(), self.peer.words(), self.peer.wrongs()), ({}, [], {"a": (1, 4)}))

    def test_no_list(self):
        self.refuses_all_but(NoLog, lambda thing: isinstance(thing, (list, tuple)), self.peer.goes_on)

    def test_refused_by_the_number_among_these_and_nothing_is_changed(self):
        good = [("heard", "a", 1, 1, "here"), ("card", CARD), ("saw", "a"), ("word", SAID)]
        bad = NO_ROWS + [
            BORN, ("born", "you", 9), ("heard", "me", 7, 1, "here"), ("silent", "b"), ("silent", "me"),
            ("piece", "key", 0, "abc"), ("piece", "no", 0, "abc"), ("less", "key", 0), ("less", "no", 0),
            ("dropped", "no"),
        ]
        bad_there = [("heard", "a", 1, 1, "here"), ("card", CARD), ("card", ("key", 2, "z", None)), ("word", SAID)]
        for row in bad + bad_there:
            self.refused_with(NoRow, {"at": len(good)}, self.peer.goes_on, good + [row, None, ("left",)])
            self.assertEqual((self.peer, self.peer.log()), (Peer("me", 7), [BORN]), row)
        for row in bad:
            self.refused_with(NoRow, {"at": 0}, self.peer.goes_on, (row, ("left",)))
            self.assertEqual((self.peer, self.peer.log()), (Peer("me", 7), [BORN]), row)

    def test_what_changes_nothing_there_is_refused(self):
        cases = [
            [("left",), ("left",)], [("turn",)], [("forgot",)], [("word", SAID), ("word", SAID)],
            [("heard", "a", 1, 1, "silent"), ("silent", "a")], [("saw", "a")] + [("turn",)] * 6,
            [("card", CARD), ("dropped", "key"), ("dropped", "key")],
            [("card", CARD), ("piece", "key", 1, "abc"), ("piece", "key", 1, "abc")],
            [("card", CARD), ("piece", "key", 1, "abc"), ("dropped", "key")],
        ]
        for rows in cases:
            self.refused_with(NoRow, {"at": len(rows) - 1}, self.peer.goes_on, rows)
            self.assertEqual(self.peer.log(), [BORN])
            self.peer.copied().goes_on(rows[:-1])


class EqualAndCopied(PeerCase):
    def others(self):
        """Peers of which no two are equal."""
        found = [Peer("me", 7), Peer("me", 8), Peer("you", 7)]
        two_keys = [("card", card_of(key, 1, "me", text="x")) for key in ("one", "two")]
        deeds = [
            [("heard", "you", 9, 1, "here")], [("heard", "you", 9, 2, "here")], [("heard", "you", 9, 1, "silent")],
            [("heard", "you", 8, 1, "here")], [("heard", "zoe", 9, 1, "here")], [("left",)], [("back",)],
            [("card", CARD)], [("card", ("key", 3, "ada", None))], [("card", ("key", 3, "ada", ()))],
            [("card", CARD), ("piece", "key", 0, "12345678")], [("card", CARD), ("piece", "key", 1, "abc")],
            [("card", CARD), ("card", ("away", 1, "me", None))], [("word", SAID)], [("word", ("b", 2, 1, "a word"))],
            [("word", SAID), ("word", ("a", 1, 1, ""))], [("word", ("a", 1, 1, "")), ("word", SAID)],
            two_keys + [("piece", "one", 0, "x")], two_keys + [("piece", "two", 0, "x")],
            [("saw", "you")], [("saw", "you"), ("saw", "you")], [("saw", "you"), ("turn",)], [("saw", "zoe")],
        ]
        for rows in deeds:
            peer = Peer("me", 7)
            peer.goes_on(rows)
            found.append(peer)
        return found

    def test_equal_are_just_those_that_tell_the_same(self):
        for (at, one), (by, other) in itertools.product(enumerate(self.others()), enumerate(self.others())):
            self.assertIs(one == other, at == by)
            self.assertIs(one.marks() == other.marks(), at == by)
        for thing in any_things() + [self.peer.marks(), self.peer.log()]:
            self.assertFalse(self.peer == thing)

    def test_equal_whatever_their_logs(self):
        self.peer.takes(CARD)
        self.peer.takes(("away", 1, "a", None))
        self.peer.drops("key")
        other = Peer("me", 7)
        other.takes(("away", 1, "a", None))
        self.assertNotEqual(self.peer.log(), other.log())
        self.assertEqual((self.peer, self.peer.marks()), (other, other.marks()))

    def test_pieces_of_unlike_texts_with_equal_marks(self):
        # Signs moved against one another: both sums stay.
        one, other = "bdb", "cbc"
        card = card_of("key", 1, "a", text=one)
        self.assertEqual(card, card_of("key", 1, "a", text=other))
        peers_of_one = []
        for piece in (one, other):
            peer = Peer("me", 7)
            peer.goes_on([("card", card), ("piece", "key", 0, piece)])
            peers_of_one.append(peer)
        self.assertNotEqual(peers_of_one[0], peers_of_one[1])
        self.assertNotEqual(peers_of_one[0].marks(), peers_of_one[1].marks())

    def test_marks_are_made_of_plain_things(self):
        def deep(thing):
            if isinstance(thing, tuple):
                return 1 + max([deep(part) for part in thing], default=0)
            self.assertIn(type(thing), (int, str, type(None)))
            return 0
        self.assertLessEqual(deep(self.with_all().marks()), 6)
        self.assertIsInstance(hash(self.with_all().marks()), int)

    def test_a_copy_has_an_equal_log_and_goes_its_own_way(self):
        peer = self.with_all()
        copy = peer.copied()
        self.assertEqual((copy, copy.log(), len(copy)), (peer, peer.log(), 7))
        ahead = peer.copied()
        copy.goes_on([
            ("heard", "you", 9, 3, "gone"), ("piece", "key", 1, "abc"), ("word", ("a", 1, 1, "")), ("saw", "you"),
            ("left",),
        ])
        self.assertEqual((peer, peer.log()), (ahead, ahead.log()))
        peer.goes_on([("less", "key", 0), ("dropped", "key"), ("turn",)])
        self.assertEqual((copy.pieces("key"), len(copy)), ({0: "12345678", 1: "abc"}, 12))
        self.assertEqual(copy.wrongs(), {"you": (2, 5)})

    def test_what_is_told_may_be_changed(self):
        peer = self.with_all()
        for told in (peer.known(), peer.cards(), peer.pieces("key"), peer.words(), peer.wrongs(), peer.log()):
            told.clear()
        self.assertEqual((peer, peer.log()), (self.with_all(), self.with_all().log()))


if __name__ == "__main__":
    unittest.main()
