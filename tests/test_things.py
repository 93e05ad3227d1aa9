"""Points 4 and 31 to 35: pieces of a text, cards, the greater card, pieces that fit, places."""

import inspect
import itertools
import unittest

from peersmeet import things
from peersmeet.errors import Away, Lacks, NoCard, NoList, NoName, NoNumber, NoPiece, NoText, Unlike, WrongPiece
from peersmeet.marks import is_name, is_text, mark_of, piece_place, place_of
from peersmeet.things import card_of, card_places, first_wrong, fits, greater, greatest
from peersmeet.things import is_ahead, is_card, pieces_of, text_of, whole_text
from tests.refusals import RefusalCase, any_things

SIXTY = "abcdefgh" * 7 + "wxyz"


def is_card_row(thing):
    return isinstance(thing, tuple) and thing == ("a", 1, "b", None)


def like_texts():
    """Two unlike texts of eight signs of one mark."""
    one = "abaabaaa"
    # Taking 1 from a sign, giving 2 to the next and taking 1 from the one behind changes neither sum.
    other = one[:3] + chr(ord(one[3]) + 1) + chr(ord(one[4]) - 2) + chr(ord(one[5]) + 1) + one[6:]
    return one, other


class Interface(unittest.TestCase):
    def test_names_and_defaults(self):
        told = {
            "pieces_of": "(text)", "text_of": "(pieces)", "card_of": "(key, number, by, *, text=None)",
            "is_card": "(thing)", "greater": "(one, other)", "is_ahead": "(one, other)", "greatest": "(cards)",
            "fits": "(card, at, piece)", "first_wrong": "(card, pieces)", "whole_text": "(card, pieces)",
            "card_places": "(card)",
        }
        for name, form in told.items():
            function = getattr(things, name)
            self.assertEqual(str(inspect.signature(function)), form)
            self.assertEqual(function.__module__, "peersmeet.things")


class Pieces(RefusalCase):
    def test_a_text_is_cut(self):
        self.assertEqual(pieces_of(""), [])
        self.assertEqual(pieces_of("a"), ["a"])
        self.assertEqual(pieces_of("abcdefgh"), ["abcdefgh"])
        self.assertEqual(pieces_of("abcdefghi"), ["abcdefgh", "i"])
        self.assertEqual(pieces_of(SIXTY), ["abcdefgh"] * 7 + ["wxyz"])

    def test_pieces_are_the_text(self):
        for many in range(61):
            text = (SIXTY[3:] + "~ !")[:many]
            self.assertEqual(text_of(pieces_of(text)), text)
            self.assertEqual(text_of(tuple(pieces_of(text))), text)

    def test_a_list_of_eight_and_of_nine(self):
        self.assertEqual(text_of(["abcdefgh"] * 8), "abcdefgh" * 8)
        nine = ["abcdefgh"] * 9
        self.refused(NoList, nine, text_of, nine)
        nine[0] = None
        self.refused(NoList, nine, text_of, nine)

    def test_fewer_than_eight_stand_last_alone(self):
        short = "".join(["ab", "c"])
        self.assertEqual(text_of(["abcdefgh", short]), "abcdefghabc")
        self.refused(NoPiece, short, text_of, [short, "abcdefgh"])
        self.refused(NoPiece, short, text_of, [short, None])

    def test_no_pieces(self):
        for thing in any_things():
            if thing != "a" and thing != "Ab" and thing != "a b":
                self.refused(NoPiece, thing, text_of, ["abcdefgh", thing])
                self.refused(NoPiece, thing, text_of, [thing, ""])
        for piece in ("", "abcdefghi", "abc%efgh", "abcdefg\n"):
            self.refused_with(NoPiece, {"found": piece}, text_of, ["abcdefgh", piece])

    def test_refused(self):
        self.refuses_all_but(NoText, is_text, pieces_of)
        self.refuses_all_but(NoList, lambda thing: isinstance(thing, (list, tuple)), text_of)

    def test_what_is_handed_in_stays_and_what_is_told_is_new(self):
        pieces = ["abcdefgh", "i"]
        text_of(pieces)
        self.assertEqual(pieces, ["abcdefgh", "i"])
        pieces_of("abcdefghi").clear()
        self.assertEqual(pieces_of("abcdefghi"), ["abcdefgh", "i"])


class Cards(RefusalCase):
    def test_a_card_of_a_text(self):
        told = card_of("key", 3, "ben", text="abcdefghi")
        self.assertEqual(told, ("key", 3, "ben", (mark_of("abcdefgh"), mark_of("i"))))
        self.assertIs(type(told[3]), tuple)
        self.assertEqual(card_of("key", 3, "ben", text=""), ("key", 3, "ben", ()))
        self.assertEqual(len(card_of("key", 3, "ben", text=SIXTY)[3]), 8)

    def test_a_card_of_what_is_taken_away(self):
        self.assertEqual(card_of("key", 3, "ben"), ("key", 3, "ben", None))
        self.assertEqual(card_of("key", 3, "ben", text=None), ("key", 3, "ben", None))

    def test_numbers(self):
        self.assertEqual(card_of("a", 999999, "b")[1], 999999)
        for number in (0, 1000000, -1):
            self.refused_with(NoNumber, {"found": number}, card_of, "a", number, "b")

    def test_refused_in_the_order_of_the_interface(self):
        self.refuses_all_but(NoName, is_name, lambda thing: card_of(thing, "no", "NO", text=5))
        is_one = lambda thing: type(thing) is int and thing in (1, 256)
        self.refuses_all_but(NoNumber, is_one, lambda thing: card_of("a", thing, "NO", text=5))
        self.refuses_all_but(NoName, is_name, lambda thing: card_of("a", 1, thing, text=5))
        is_put = lambda thing: thing is None or is_text(thing)
        self.refuses_all_but(NoText, is_put, lambda thing: card_of("a", 1, "b", text=thing))

    def test_cards(self):
        most = 256 * 250 + 250
        for marks in (None, (), (0,), (1,), (most,), (0, 1, 2, 3, 250, 256, most, most)):
            self.assertIs(is_card(("a", 1, "b", marks)), True)
        self.assertIs(is_card(("abcdefgh", 999999, "a", None)), True)
        self.assertIs(is_card(card_of("a", 1, "b", text=SIXTY)), True)

    def test_marks_beyond_what_a_mark_may_be(self):
        for mark in (-1, 251, 255, 256 * 250 + 251, 256 * 251, 10 ** 29, True, False, None, "1", (1,)):
            self.assertIs(is_card(("a", 1, "b", (1, mark))), False)
        self.assertIs(is_card(("a", 1, "b", (1,) * 9)), False)
        for marks in ([], [1], 1, "", {}, False):
            self.assertIs(is_card(("a", 1, "b", marks)), False)

    def test_no_cards(self):
        for card in (("A", 1, "b", None), ("a", 0, "b", None), ("a", 1000000, "b", None), ("a", True, "b", None),
                     ("a", 1, "", None), ("abcdefghi", 1, "b", None), ("a", 1, "b"), ("a", 1, "b", None, None),
                     ["a", 1, "b", None]):
            self.assertIs(is_card(card), False)
        for thing in any_things():
            self.assertIs(is_card(thing), is_card_row(thing))


class Greater(RefusalCase):
    # Cards of one key, each greater than those ahead of it.
    RISING = [
        ("k", 1, "ab", None), ("k", 1, "ab", ()), ("k", 1, "ab", (0,)), ("k", 1, "ab", (0, 0)),
        ("k", 1, "ab", (1,)), ("k", 1, "abc", None), ("k", 1, "abc", (0,)), ("k", 1, "b", None),
        ("k", 2, "a", None), ("k", 2, "a", (5, 5)), ("k", 10, "a", ()), ("k", 999999, "a", None),
    ]

    def test_the_greater_of_two(self):
        for (at, one), (behind, other) in itertools.product(enumerate(self.RISING), repeat=2):
            self.assertEqual(greater(one, other), self.RISING[max(at, behind)])
            self.assertIs(is_ahead(one, other), at < behind)

    def test_of_equal_ones_the_first(self):
        one = ("k", 1, "b", (5, 6))
        other = ("k", 1, "b", tuple([5, 6]))
        self.assertIsNot(one, other)
        self.assertIs(greater(one, other), one)
        self.assertIs(greater(other, one), other)
        self.assertIs(greatest([self.RISING[0], one, other]), one)
        self.assertIs(greatest([other, self.RISING[0], one]), other)

    def test_the_greatest(self):
        for start in range(len(self.RISING)):
            row = self.RISING[start:] + self.RISING[:start]
            self.assertEqual(greatest(row), self.RISING[-1])
            self.assertEqual(greatest(tuple(row)), self.RISING[-1])
        self.assertEqual(greatest([self.RISING[3]]), self.RISING[3])

    def test_of_one_to_a_hundred(self):
        hundred = [("k", 1 + k % 50, "b", None) for k in range(100)]
        self.assertEqual(greatest(hundred), ("k", 50, "b", None))
        for wrong in ([], (), hundred + hundred[:1]):
            self.refused(NoList, wrong, greatest, wrong)

    def test_cards_of_two_keys(self):
        one = ("k", 1, "b", None)
        other = ("l", 9, "b", None)
        for call in (greater, is_ahead):
            self.refused(Unlike, other, call, one, other)
            self.refused(Unlike, one, call, other, one)
        self.refused(Unlike, other, greatest, [one, one, other, None])
        self.refused(NoCard, "no", greatest, [one, "no", other])
        self.refused(NoCard, "no", greatest, ["no", other, one])

    def test_refused(self):
        for call in (greater, is_ahead):
            self.refuses_all_but(NoCard, is_card, lambda thing: call(thing, None))
            self.refuses_all_but(NoCard, is_card, lambda thing: call(("k", 1, "b", None), thing))
        self.refuses_all_but(NoCard, is_card, lambda thing: greatest([thing, None]))
        self.refuses_all_but(NoCard, is_card, lambda thing: greatest([("k", 1, "b", None), thing, None]))
        for thing in any_things():
            if not isinstance(thing, (list, tuple)):
                self.refused(NoList, thing, greatest, thing)

    def test_what_is_handed_in_stays(self):
        row = list(reversed(self.RISING))
        greatest(row)
        self.assertEqual(row, list(reversed(self.RISING)))


class Fits(RefusalCase):
    def setUp(self):
        self.card = card_of("k", 1, "b", text="abcdefghijklmnopqr")
        self.pieces = ["abcdefgh", "ijklmnop", "qr"]

    def test_pieces_of_the_text_fit(self):
        for at, (number, piece) in itertools.product(range(-1, 4), enumerate(self.pieces)):
            self.assertIs(fits(self.card, at, piece), at == number)

    def test_how_many_signs_a_piece_has(self):
        short = ("k", 1, "b", (mark_of("abc"), mark_of("abc")))
        self.assertIs(fits(short, 0, "abc"), False)
        self.assertIs(fits(short, 1, "abc"), True)
        for text in ("", "abcdefghi"):
            self.assertIs(fits(("k", 1, "b", (mark_of(text),)), 0, text), False)
        self.assertIs(fits(("k", 1, "b", (mark_of("a"),)), 0, "a"), True)
        self.assertIs(fits(("k", 1, "b", (mark_of("abcdefgh"),)), 0, "abcdefgh"), True)

    def test_unlike_texts_of_equal_marks(self):
        one, other = like_texts()
        self.assertNotEqual(one, other)
        self.assertEqual(mark_of(one), mark_of(other))
        card = card_of("k", 1, "b", text=one)
        self.assertIs(fits(card, 0, other), True)
        self.assertIs(first_wrong(card, [other]), None)
        self.assertEqual(whole_text(card, {0: other}), other)

    def test_cards_without_marks(self):
        for card in (("k", 1, "b", None), ("k", 1, "b", ())):
            for at, piece in itertools.product((0, 1, -1, None), ("", "a", None)):
                self.assertIs(fits(card, at, piece), False)

    def test_any_two_things(self):
        for thing in any_things():
            self.assertIs(fits(self.card, 0, thing), False)
            self.assertIs(fits(self.card, thing, "abcdefgh"), type(thing) is int and thing == 0)
            self.assertIs(fits(self.card, thing, thing), False)
        self.assertIs(fits(self.card, False, "abcdefgh"), False)
        self.assertIs(fits(self.card, True, "ijklmnop"), False)

    def test_refused(self):
        self.refuses_all_but(NoCard, is_card, lambda thing: fits(thing, None, None))


class FirstWrong(RefusalCase):
    def setUp(self):
        self.card = card_of("k", 1, "b", text="abcdefghijklmnopqr")
        self.pieces = ["abcdefgh", "ijklmnop", "qr"]

    def test_all_fit(self):
        self.assertIs(first_wrong(self.card, self.pieces), None)
        self.assertIs(first_wrong(self.card, tuple(self.pieces)), None)
        self.assertIs(first_wrong(("k", 1, "b", ()), []), None)
        self.assertIs(first_wrong(("k", 1, "b", None), []), None)

    def test_a_piece_is_wrong(self):
        for at in range(3):
            for thing in any_things():
                pieces = list(self.pieces)
                pieces[at] = thing
                self.assertEqual(first_wrong(self.card, pieces), at)
        self.assertEqual(first_wrong(self.card, ["abcdefgh", "no", "no"]), 1)
        self.assertEqual(first_wrong(self.card, ["abcdefgh", "no"]), 1)

    def test_a_piece_lacks(self):
        for many in range(3):
            self.assertEqual(first_wrong(self.card, self.pieces[:many]), many)

    def test_a_piece_too_many(self):
        self.assertEqual(first_wrong(self.card, self.pieces + ["qr"]), 3)
        self.assertEqual(first_wrong(("k", 1, "b", ()), ["a"]), 0)
        self.assertEqual(first_wrong(("k", 1, "b", None), [None]), 0)

    def test_at_most_a_hundred(self):
        self.assertEqual(first_wrong(self.card, self.pieces + [None] * 97), 3)
        long = self.pieces + [None] * 98
        self.refused(NoList, long, first_wrong, self.card, long)

    def test_refused(self):
        self.refuses_all_but(NoCard, is_card, lambda thing: first_wrong(thing, None))
        is_list = lambda thing: isinstance(thing, (list, tuple))
        self.refuses_all_but(NoList, is_list, lambda thing: first_wrong(self.card, thing))


class WholeText(RefusalCase):
    def setUp(self):
        self.card = card_of("k", 1, "b", text="abcdefghijklmnopqr")
        self.pieces = {0: "abcdefgh", 1: "ijklmnop", 2: "qr"}

    def test_the_text(self):
        self.assertEqual(whole_text(self.card, self.pieces), "abcdefghijklmnopqr")
        self.assertEqual(whole_text(self.card, {2: "qr", 0: "abcdefgh", 1: "ijklmnop"}), "abcdefghijklmnopqr")
        self.assertEqual(whole_text(("k", 1, "b", ()), {}), "")

    def test_strange_numbers_stay_unread(self):
        strange = {3: "qr", -1: None, 10 ** 29: [], "0": "x", "": 5}
        self.assertEqual(whole_text(self.card, {**strange, **self.pieces}), "abcdefghijklmnopqr")
        self.assertEqual(whole_text(("k", 1, "b", ()), {0: "no"}), "")
        self.refused_with(Lacks, {"found": [0, 1, 2]}, whole_text, self.card, strange)

    def test_what_was_taken_away(self):
        card = card_of("".join(["ke", "y"]), 1, "b")
        self.refused(Away, card[0], whole_text, card, {})
        self.refused(Away, card[0], whole_text, card, {0: "no"})

    def test_what_does_not_fit(self):
        for thing in any_things():
            self.refused_with(WrongPiece, {"at": 1}, whole_text, self.card, {2: thing, 1: thing})
        self.refused_with(WrongPiece, {"at": 2}, whole_text, self.card, {0: "abcdefgh", 2: "no"})

    def test_what_lacks(self):
        self.refused_with(Lacks, {"found": [0, 2]}, whole_text, self.card, {1: "ijklmnop"})
        self.refused_with(Lacks, {"found": [0, 1, 2]}, whole_text, self.card, {})

    def test_at_most_a_hundred(self):
        many = {**self.pieces, **{k: None for k in range(3, 100)}}
        self.assertEqual(whole_text(self.card, many), "abcdefghijklmnopqr")
        many[100] = None
        self.refused(NoList, many, whole_text, self.card, many)
        self.refused(NoList, many, whole_text, card_of("k", 1, "b"), many)

    def test_refused(self):
        self.refuses_all_but(NoCard, is_card, lambda thing: whole_text(thing, None))
        is_dict = lambda thing: isinstance(thing, dict)
        self.refuses_all_but(NoList, is_dict, lambda thing: whole_text(self.card, thing))

    def test_what_is_handed_in_stays(self):
        pieces = {9: "x", **self.pieces}
        whole_text(self.card, pieces)
        self.assertEqual(pieces, {9: "x", **self.pieces})


class CardPlaces(RefusalCase):
    def test_the_place_of_the_card_and_those_of_its_pieces(self):
        self.assertEqual(card_places(card_of("a", 1, "b", text=SIXTY)), [232, 8, 40, 72, 104, 136, 168, 200, 232])
        card = card_of("ab", 1, "b", text="abcdefghi")
        self.assertEqual(card_places(card), [place_of("ab"), piece_place("ab", 0), piece_place("ab", 1)])
        for card in (("a", 1, "b", None), ("a", 1, "b", ())):
            self.assertEqual(card_places(card), [232])

    def test_refused(self):
        self.refuses_all_but(NoCard, is_card, card_places)


if __name__ == "__main__":
    unittest.main()
