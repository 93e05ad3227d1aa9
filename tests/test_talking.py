"""Points 3 and 62: who keeps a card and a piece, and what two peers that talk tell and hand each other."""

import inspect
import itertools
import unittest

from peersmeet import talking
from peersmeet.circles import Circle
from peersmeet.peers import Peer
from peersmeet.talking import keeps_card, keeps_piece, talk
from peersmeet.things import card_of, pieces_of

# The card of `a` is kept at 232, its pieces at 8, 40, 72, 104, 136, 168, 200 and 232.
TEXT = "11111111222222223333333344444444555555556666666677777777abcd"
CARD = card_of("a", 5, "me", text=TEXT)
CIRCLE = Circle([("ada", 50), ("ben", 150), ("cy", 240)])
NAMES = ("ada", "ben", "cy")


def keepers(card, copies, circle=CIRCLE):
    return [name for name in circle.names() if keeps_card(circle, name, card, copies)]


def piece_keepers(card, at, copies, circle=CIRCLE):
    return [name for name in circle.names() if keeps_piece(circle, name, card, at, copies)]


def peer_with(name, place, card=None, numbers=(), text=TEXT):
    peer = Peer(name, place)
    if card is not None:
        peer.takes(card)
        for at in numbers:
            peer.takes_piece(card[0], at, pieces_of(text)[at])
    return peer


class Keepers(unittest.TestCase):
    def test_names_and_arguments(self):
        forms = {talk: "(one, other, copies)", keeps_card: "(circle, name, card, copies)",
                 keeps_piece: "(circle, name, card, at, copies)"}
        for call, form in forms.items():
            self.assertEqual((str(inspect.signature(call)), call.__module__), (form, talking.__name__))

    def test_of_pieces(self):
        ones = ["ada", "ada", "ben", "ben", "ben", "cy", "cy", "cy"]
        behind = {"ada": "ben", "ben": "cy", "cy": "ada"}
        for at, name in enumerate(ones):
            self.assertEqual(piece_keepers(CARD, at, 1), [name])
            self.assertEqual(piece_keepers(CARD, at, 2), sorted([name, behind[name]]))
            for copies in (3, 4):
                self.assertEqual(piece_keepers(CARD, at, copies), list(NAMES))
            self.assertIs(keeps_piece(CIRCLE, name, CARD, at, 1), True)
            self.assertIs(keeps_piece(CIRCLE, behind[name], CARD, at, 1), False)

    def test_of_cards(self):
        for text, names in (("", ["cy"]), ("x", ["ada", "cy"]), ("x" * 16, ["ada", "cy"]), ("x" * 17, list(NAMES))):
            self.assertEqual(keepers(card_of("a", 1, "me", text=text), 1), names)
        away = card_of("a", 1, "me")
        self.assertEqual([keepers(away, copies) for copies in (1, 2, 3)], [["cy"], ["ada", "cy"], list(NAMES)])
        self.assertIs(keeps_card(CIRCLE, "cy", away, 1), True)
        self.assertIs(keeps_card(CIRCLE, "ben", away, 1), False)

    def test_of_a_peer_at_the_very_place_and_of_two_there(self):
        circle = Circle([("at", 8), ("behind", 9), ("also", 8)])
        self.assertEqual(piece_keepers(CARD, 0, 1, circle), ["also"])
        self.assertEqual(piece_keepers(CARD, 0, 2, circle), ["also", "at"])
        self.assertEqual(piece_keepers(CARD, 1, 1, circle), ["also"])
        self.assertIs(keeps_piece(circle, "gone", CARD, 0, 4), False)
        self.assertIs(keeps_card(circle, "gone", CARD, 4), False)


class Views(unittest.TestCase):
    def test_each_hears_all_that_the_other_one_has_the_one_ahead(self):
        one, other = Peer("ben", 150), Peer("ada", 50)
        one.hears("cy", 240, 1, "gone")
        other.hears("ben", 150, 1, "silent")
        other.hears("dan", 9, 1, "here")
        other.hears("cy", 240, 1, "silent")
        self.assertIs(talk(one, other, 2), None)
        self.assertEqual(one.known(), other.known())
        self.assertEqual(one.known(), [
            ("ada", 50, 1, "here"), ("ben", 150, 2, "here"), ("cy", 240, 1, "gone"), ("dan", 9, 1, "here")])
        self.assertEqual(one.log()[2:], [
            ("heard", "ada", 50, 1, "here"), ("heard", "ben", 150, 1, "silent"), ("heard", "dan", 9, 1, "here")])
        self.assertEqual(other.log()[4:], [("heard", "ben", 150, 2, "here"), ("heard", "cy", 240, 1, "gone")])

    def test_until_neither_hears_anything_new(self):
        one, other = Peer("ada", 50), Peer("ben", 150)
        one.hears("ben", 150, 1, "silent")
        talk(one, other, 2)
        # The second one hears of its own silence behind the first one, which hears of its number again.
        self.assertEqual(one.log()[2:], [("heard", "ben", 150, 2, "here")])
        self.assertEqual(other.log()[1:], [("heard", "ada", 50, 1, "here"), ("heard", "ben", 150, 1, "silent")])
        self.assertEqual(one.known(), other.known())

    def test_one_that_left(self):
        one, other = Peer("ada", 50), Peer("ben", 150)
        talk(one, other, 1)
        one.leaves()
        talk(one, other, 1)
        self.assertEqual(other.word("ada"), "gone")
        self.assertEqual(one.circle(), Circle([("ben", 150)]))


class Cards(unittest.TestCase):
    def after_talk(self, one, other, copies=1, others=(("cy", 240),)):
        for name, place in others:
            one.hears(name, place, 1, "here")
        talk(one, other, copies)
        return one, other

    def test_a_keeper_takes_a_card_and_just_its_pieces(self):
        one, other = self.after_talk(peer_with("ada", 50, CARD, range(8)), peer_with("ben", 150))
        self.assertEqual((one.card("a"), other.card("a")), (CARD, CARD))
        self.assertEqual((list(one.pieces("a")), list(other.pieces("a"))), (list(range(8)), [2, 3, 4]))
        self.assertEqual(other.pieces("a"), {at: pieces_of(TEXT)[at] for at in (2, 3, 4)})
        one, other = self.after_talk(peer_with("ada", 50), peer_with("ben", 150, CARD, range(8)), 2)
        self.assertEqual(list(one.pieces("a")), [0, 1, 5, 6, 7])

    def test_no_keeper_takes_none(self):
        card = card_of("a", 1, "me", text="x" * 16)
        one, other = self.after_talk(peer_with("ada", 50, card), peer_with("ben", 150))
        self.assertEqual((one.card("a"), other.cards()), (card, {}))

    def test_no_keeper_takes_a_greater_one_where_it_has_an_elder_one(self):
        elder = card_of("a", 1, "me", text=TEXT)
        card = card_of("a", 1, "z", text="x" * 16)
        for turned in (False, True):
            one, other = peer_with("ada", 50, card, [0, 1], "x" * 16), peer_with("ben", 150, elder, range(8))
            one.hears("cy", 240, 1, "here")
            talk(*((other, one) if turned else (one, other)), 1)
            self.assertEqual((other.card("a"), other.pieces("a")), (card, {}))
            self.assertEqual(one.pieces("a"), {0: "x" * 8, 1: "x" * 8})

    def test_the_greater_card_goes_by_number_by_and_marks(self):
        cards = [card_of("a", 1, "me"), card_of("a", 1, "me", text=""), card_of("a", 1, "me", text="a"),
                 card_of("a", 1, "me", text="b"), card_of("a", 1, "z"), card_of("a", 2, "me")]
        for (at, card), (by, elder) in itertools.product(enumerate(cards), enumerate(cards)):
            one, other = self.after_talk(peer_with("ada", 50, card), peer_with("cy", 240, elder), others=())
            self.assertEqual((one.card("a"), other.card("a")), (cards[max(at, by)],) * 2)

    def test_each_takes_pieces_that_the_other_one_has(self):
        one, other = self.after_talk(
            peer_with("ada", 50, CARD, [2, 3, 5]), peer_with("ben", 150, CARD, [0, 4, 6, 7]), 2)
        self.assertEqual((list(one.pieces("a")), list(other.pieces("a"))), ([0, 2, 3, 5, 6, 7], [0, 2, 3, 4, 6, 7]))
        self.assertEqual(one.log()[-3:], [("piece", "a", at, pieces_of(TEXT)[at]) for at in (0, 6, 7)])
        self.assertEqual(other.log()[-2:], [("piece", "a", at, pieces_of(TEXT)[at]) for at in (2, 3)])

    def test_keys_rise(self):
        one, other = Peer("ada", 50), Peer("ben", 150)
        for key in ("b", "zz"):
            one.takes((key, 1, "me", None))
        for key in ("ab", "m", "b"):
            other.takes((key, 2, "me", None))
        talk(one, other, 2)
        self.assertEqual([row[1][0] for row in one.log() if row[0] == "card"], ["b", "zz", "ab", "b", "m"])
        self.assertEqual([row[1][0] for row in other.log() if row[0] == "card"], ["ab", "m", "b", "zz"])

    def test_two_at_one_place(self):
        one, other = self.after_talk(peer_with("ben", 50, CARD, range(8)), peer_with("ada", 50), others=())
        # The least name keeps all, the other one lets nothing go in a talk.
        self.assertEqual((list(one.pieces("a")), list(other.pieces("a"))), (list(range(8)),) * 2)
        one, other = self.after_talk(peer_with("ada", 50, CARD, range(8)), peer_with("ben", 50), others=())
        self.assertEqual((other.cards(), other.pieces("a")), ({}, {}))

    def test_fewer_peers_than_copies(self):
        one, other = self.after_talk(peer_with("ada", 50, CARD, [1, 3]), peer_with("ben", 150), 4, ())
        self.assertEqual((other.card("a"), list(other.pieces("a"))), (CARD, [1, 3]))

    def test_pieces_of_unlike_texts_with_equal_marks_stay(self):
        card = card_of("a", 1, "me", text="bdb")
        one, other = self.after_talk(peer_with("ada", 50, card, [0], "bdb"), peer_with("cy", 240, card, [0], "cbc"))
        self.assertEqual((one.pieces("a"), other.pieces("a")), ({0: "bdb"}, {0: "cbc"}))


class Words(unittest.TestCase):
    def test_each_hears_what_it_lacks_rising(self):
        one, other = Peer("ada", 50), Peer("ben", 150)
        words = [("z", 1, 1, "z"), ("a", 10, 1, ""), ("a", 2, 1, "b"), ("a", 2, 1, "a")]
        for word in words:
            one.hears_word(word)
        for word in (("m", 2, 1, ""), ("m", 1, 2, ""), words[1]):
            other.hears_word(word)
        talk(one, other, 2)
        self.assertEqual(one.words(), words + [("m", 1, 2, ""), ("m", 2, 1, "")])
        self.assertEqual(other.words(), [("m", 2, 1, ""), ("m", 1, 2, ""), words[1], words[3], words[2], words[0]])

    def test_a_talk_again_changes_nothing(self):
        one, other = peer_with("ada", 50, CARD, [0, 2, 7]), peer_with("ben", 150, card_of("a", 4, "z", text="q"), [0], "q")
        one.hears_word(("z", 1, 1, "z"))
        other.hears("ada", 50, 3, "silent")
        other.hears("cy", 240, 3, "here")
        talk(one, other, 2)
        ahead = [one.log(), other.log()]
        talk(one, other, 2)
        talk(other, one, 2)
        self.assertEqual([one.log(), other.log()], ahead)


if __name__ == "__main__":
    unittest.main()
