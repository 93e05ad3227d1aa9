"""Points 36 and 37: a store of cards and pieces."""

import inspect
import itertools
import unittest

from peersmeet import stores
from peersmeet.errors import NoCard, NoList, NoName, NoPiece, NotThere, Taken, TooMany
from peersmeet.marks import is_name
from peersmeet.stores import Store, store_of
from peersmeet.things import card_of, is_card
from tests.refusals import RefusalCase, any_things
from tests.test_things import like_texts

KEYS = ["k" + letter for letter in "mlkjihgfedcba"]


def filled(keys):
    store = Store()
    for key in keys:
        store.take_in(card_of(key, 1, "b"))
    return store


class StoreCase(RefusalCase):
    def setUp(self):
        self.store = Store()
        self.card = card_of("key", 2, "ben", text="abcdefghijklmnopqr")
        self.pieces = ["abcdefgh", "ijklmnop", "qr"]

    def unchanged(self, store, call):
        """Behind what the call does the store is what it was."""
        ahead = store.told()
        call()
        self.assertEqual(store.told(), ahead)


class Interface(unittest.TestCase):
    def test_names_and_methods_of_its_own(self):
        told = {
            "__init__": "(self)", "take_in": "(self, card)", "take_piece": "(self, key, at, piece)",
            "let_piece": "(self, key, at)", "let_card": "(self, key)", "keys_of": "(self)", "card": "(self, key)",
            "pieces": "(self, key)", "has_piece": "(self, key, at)", "is_whole": "(self, key)", "copied": "(self)",
            "told": "(self)", "__len__": "(self)", "__eq__": "(self, other)",
        }
        for name, form in told.items():
            self.assertEqual(str(inspect.signature(vars(Store)[name])), form)
        self.assertEqual(str(inspect.signature(store_of)), "(thing)")
        self.assertEqual((store_of.__module__, Store.__module__), (stores.__name__, stores.__name__))


class CardsKept(StoreCase):
    def test_a_store_is_empty_at_first(self):
        store = self.store
        self.assertEqual((len(store), store.keys_of(), store.told(), store.pieces("key")), (0, [], (), {}))
        self.assertIs(store.card("key"), None)
        self.assertIs(store.has_piece("key", 0), False)
        self.assertIs(store.is_whole("key"), False)

    def test_a_card_is_taken_in_where_it_is_greater(self):
        for number, kept in ((2, True), (2, False), (1, False), (3, True), (2, False)):
            self.assertIs(self.store.take_in(card_of("key", number, "ben")), kept)
        self.assertEqual(self.store.card("key"), ("key", 3, "ben", None))
        self.assertIs(self.store.take_in(("key", 3, "ben", ())), True)
        self.assertIs(self.store.take_in(("key", 3, "ben", None)), False)
        self.assertIs(self.store.take_in(("key", 3, "benny", None)), True)
        self.assertIs(self.store.take_in(("key", 3, "ben", (5,))), False)
        self.assertEqual(self.store.card("key"), ("key", 3, "benny", None))
        self.assertEqual(len(self.store), 1)

    def test_pieces_go_with_a_lesser_card_alone(self):
        self.store.take_in(self.card)
        self.store.take_piece("key", 0, "abcdefgh")
        self.store.take_in(self.card)
        self.store.take_in(card_of("key", 1, "ben"))
        self.assertEqual(self.store.pieces("key"), {0: "abcdefgh"})
        self.store.take_in(card_of("key", 3, "ben", text="abcdefgh"))
        self.assertEqual(self.store.pieces("key"), {})
        self.assertIs(self.store.has_piece("key", 0), False)

    def test_a_thirteenth_key(self):
        store = filled(KEYS[:12])
        self.unchanged(store, lambda: self.refused_with(
            TooMany, {"many": 13}, store.take_in, card_of(KEYS[12], 1, "b", text="x")))
        self.assertIs(store.take_in(card_of(KEYS[3], 2, "b", text="x")), True)
        self.assertIs(store.take_in(card_of(KEYS[3], 1, "b")), False)
        store.let_card(KEYS[0])
        self.assertIs(store.take_in(card_of(KEYS[12], 1, "b")), True)

    def test_keys_come_in_order(self):
        self.assertEqual(filled(["b", "ab", "a", "c"]).keys_of(), ["a", "ab", "b", "c"])

    def test_no_card(self):
        self.refuses_all_but(NoCard, is_card, self.store.take_in)
        store = filled(KEYS[:12])
        self.unchanged(store, lambda: self.refuses_all_but(NoCard, lambda thing: is_card(thing), store.take_in))

    def test_a_card_is_let_go(self):
        self.store.take_in(self.card)
        self.assertIs(self.store.let_card("key"), None)
        self.assertEqual((len(self.store), self.store.told()), (0, ()))
        self.assertIs(self.store.take_in(card_of("key", 1, "b")), True)

    def test_a_card_of_which_a_piece_is_kept(self):
        self.store.take_in(self.card)
        self.store.take_piece("key", 2, "qr")
        key = "".join(["k", "ey"])
        self.unchanged(self.store, lambda: self.refused(Taken, key, self.store.let_card, key))
        self.store.let_piece("key", 2)
        self.store.let_card("key")
        self.assertEqual(len(self.store), 0)

    def test_a_card_that_is_not_there(self):
        self.store.take_in(self.card)
        key = "".join(["k", "ez"])
        self.unchanged(self.store, lambda: self.refused(NotThere, key, self.store.let_card, key))
        self.refuses_all_but(NoName, is_name, self.store.let_card)


class PiecesKept(StoreCase):
    def setUp(self):
        StoreCase.setUp(self)
        self.store.take_in(self.card)

    def test_pieces_are_taken_in_once(self):
        self.assertIs(self.store.take_piece("key", 2, "qr"), True)
        self.assertIs(self.store.take_piece("key", 2, "qr"), False)
        self.assertIs(self.store.take_piece("key", 0, "abcdefgh"), True)
        self.assertEqual(self.store.pieces("key"), {0: "abcdefgh", 2: "qr"})
        self.assertEqual(list(self.store.pieces("key")), [0, 2])

    def test_of_equal_marks_the_first_stays(self):
        one, other = like_texts()
        self.store.take_in(card_of("key", 5, "ben", text=one))
        self.assertIs(self.store.take_piece("key", 0, other), True)
        self.assertIs(self.store.take_piece("key", 0, one), False)
        self.assertEqual(self.store.pieces("key"), {0: other})

    def test_what_does_not_fit(self):
        self.store.take_piece("key", 0, "abcdefgh")
        for thing in any_things():
            for at in (0, 1, 2, 3, None, True, [0]):
                self.unchanged(self.store, lambda: self.refused(
                    NoPiece, thing, self.store.take_piece, "key", at, thing))
            if not (type(thing) is int and thing == 1):
                self.unchanged(self.store, lambda: self.refused_with(
                    NoPiece, {"found": "ijklmnop"}, self.store.take_piece, "key", thing, "ijklmnop"))

    def test_what_hangs_on_the_key_goes_first(self):
        other = "".join(["o", "ther"])
        for at, piece in itertools.product(any_things(), (None, "abcdefgh")):
            self.refused(NotThere, other, self.store.take_piece, other, at, piece)
            self.refused(NotThere, other, self.store.let_piece, other, at)
        self.refuses_all_but(NoName, is_name, lambda thing: self.store.take_piece(thing, None, None))
        self.refuses_all_but(NoName, is_name, lambda thing: self.store.let_piece(thing, None))

    def test_pieces_of_a_card_without_marks(self):
        for marks in (None, ()):
            self.store.take_in(("away", 1, "b", marks))
            self.refused(NoPiece, "a", self.store.take_piece, "away", 0, "a")

    def test_a_piece_is_let_go(self):
        for at, piece in enumerate(self.pieces):
            self.store.take_piece("key", at, piece)
        self.assertIs(self.store.let_piece("key", 1), None)
        self.assertEqual(self.store.pieces("key"), {0: "abcdefgh", 2: "qr"})
        self.assertIs(self.store.take_piece("key", 1, "ijklmnop"), True)

    def test_a_piece_that_is_not_there(self):
        self.store.take_piece("key", 0, "abcdefgh")
        self.store.take_piece("key", 1, "ijklmnop")
        for thing in any_things() + [2, 3, -1]:
            if not (type(thing) is int and thing in (0, 1)):
                self.unchanged(self.store, lambda: self.refused(
                    NotThere, thing, self.store.let_piece, "key", thing))

    def test_whether_a_piece_is_kept(self):
        self.store.take_piece("key", 1, "ijklmnop")
        for thing in any_things():
            self.assertIs(self.store.has_piece("key", thing), type(thing) is int and thing == 1)
            self.assertIs(self.store.has_piece("other", thing), False)
        self.refuses_all_but(NoName, is_name, lambda thing: self.store.has_piece(thing, None))

    def test_whether_all_are_kept(self):
        for at, piece in enumerate(self.pieces):
            self.assertIs(self.store.is_whole("key"), False)
            self.store.take_piece("key", at, piece)
        self.assertIs(self.store.is_whole("key"), True)
        self.assertIs(self.store.is_whole("other"), False)
        for marks in (None, ()):
            self.store.take_in(("a", 1, "b", marks))
            self.assertIs(self.store.is_whole("a"), True)
        self.refuses_all_but(NoName, is_name, self.store.is_whole)

    def test_what_else_asks_for_a_key(self):
        self.refuses_all_but(NoName, is_name, self.store.card)
        self.refuses_all_but(NoName, is_name, self.store.pieces)
        self.assertEqual(self.store.pieces("other"), {})

    def test_what_is_told_may_be_changed(self):
        self.store.take_piece("key", 0, "abcdefgh")
        self.store.pieces("key")[1] = "no"
        self.store.pieces("other")[1] = "no"
        self.store.keys_of().append("no")
        self.assertEqual(self.store.pieces("key"), {0: "abcdefgh"})
        self.assertEqual(self.store.pieces("other"), {})
        self.assertEqual(self.store.keys_of(), ["key"])


class ToldAndMade(StoreCase):
    def setUp(self):
        StoreCase.setUp(self)
        for card in (self.card, card_of("b", 1, "b"), card_of("a", 1, "b", text="")):
            self.store.take_in(card)
        for at in (2, 0):
            self.store.take_piece("key", at, self.pieces[at])
        self.told = (
            (("a", 1, "b", ()), ()), (("b", 1, "b", None), ()), (self.card, ((0, "abcdefgh"), (2, "qr"))),
        )

    def test_told(self):
        self.assertEqual(self.store.told(), self.told)
        self.assertEqual(len(self.store), 3)

    def test_made_of_what_is_told(self):
        made = store_of(self.told)
        self.assertEqual(made, self.store)
        self.assertEqual(made.told(), self.told)
        made.let_card("a")
        self.assertEqual(self.store.told(), self.told)
        self.assertEqual(store_of(()), Store())

    def test_in_any_order_and_a_number_twice(self):
        row = (self.card, ((2, "qr"), (0, "abcdefgh"), (2, "qr"), (0, "abcdefgh")))
        self.assertEqual(store_of((self.told[1], row, self.told[0])), self.store)
        one, other = like_texts()
        made = store_of(((card_of("k", 1, "b", text=one), ((0, other), (0, one))),))
        self.assertEqual(made.pieces("k"), {0: other})

    def test_no_told_form(self):
        row = self.told[0]
        wrong = [
            list(self.told), (list(row),), (row, row[0]), (row + ((),),), ((row[0],),), ((row[0], []),),
            ((row[0], (1,)),), ((row[0], ([0, "a"],)),), ((row[0], ((0,),)),), ((row[0], ((0, "a", 1),)),),
            (row, None), ((None, None),), (("no", ()), 5),
        ]
        for thing in wrong + [thing for thing in any_things() if thing != ()]:
            self.refused(NoList, thing, store_of, thing)

    def test_of_at_most_a_hundred_cards(self):
        rows = tuple([(card_of("k", 1, "b"), ())] * 101)
        self.refused(NoList, rows, store_of, rows)
        self.refused_with(NoCard, {"found": ("k", 1, "b", None)}, store_of, rows[:100])

    def test_row_by_row(self):
        for thing in any_things():
            if not is_card(thing):
                self.refused(NoCard, thing, store_of, (self.told[0], (thing, ((0, "no"),)), self.told[0]))
        again = card_of("a", 2, "b")
        self.refused(NoCard, again, store_of, (self.told[0], (again, ()), (None, ())))
        for thing in any_things():
            self.refused(NoPiece, thing, store_of, ((self.card, ((0, "abcdefgh"), (1, thing))), (None, ())))
            if not (type(thing) is int and thing == 0):
                self.refused_with(NoPiece, {"found": "abcdefgh"}, store_of, ((self.card, ((thing, "abcdefgh"),)),))

    def test_a_thirteenth_key(self):
        rows = tuple([(card_of(key, 1, "b"), ()) for key in KEYS])
        self.refused_with(TooMany, {"many": 13}, store_of, rows + ((None, ()),))
        self.assertEqual(store_of(rows[:12]).keys_of(), sorted(KEYS[:12]))
        self.refused_with(NoCard, {"found": None}, store_of, rows[:12] + ((None, ()),))
        wrong = ((rows[12][0], ((0, "no"),)),)
        self.refused_with(TooMany, {"many": 13}, store_of, rows[:12] + wrong)

    def test_a_copy_goes_its_own_way(self):
        copy = self.store.copied()
        self.assertIs(type(copy), Store)
        self.assertEqual(copy, self.store)
        copy.take_piece("key", 1, "ijklmnop")
        copy.let_card("a")
        self.assertEqual(self.store.told(), self.told)
        self.store.let_piece("key", 0)
        self.store.take_in(card_of("new", 1, "b"))
        self.assertEqual(copy.pieces("key"), {0: "abcdefgh", 1: "ijklmnop", 2: "qr"})
        self.assertEqual(copy.keys_of(), ["b", "key"])

    def test_equal_stores(self):
        other = Store()
        self.assertEqual(Store(), other)
        other.take_in(self.card)
        self.assertNotEqual(Store(), other)
        lesser = Store()
        lesser.take_in(card_of("key", 1, "ben", text="abcdefghijklmnopqr"))
        self.assertNotEqual(lesser, other)
        lesser.take_in(self.card)
        self.assertEqual(lesser, other)
        other.take_piece("key", 0, "abcdefgh")
        self.assertNotEqual(lesser, other)
        other.let_piece("key", 0)
        self.assertEqual(lesser, other)
        other.take_in(card_of("a", 1, "b"))
        other.let_card("a")
        self.assertEqual(lesser, other)

    def test_no_thing_of_another_kind_is_equal(self):
        for thing in any_things() + [self.told]:
            self.assertFalse(self.store == thing)


if __name__ == "__main__":
    unittest.main()
