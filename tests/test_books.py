"""Points 38 and 39: the plain book."""

import inspect
import unittest

from peersmeet.books import Book
from peersmeet.errors import Away, NoBook, NoCard, NoList, NoName, NoText, NotThere, TooMany, WrongPiece
from peersmeet.marks import is_name, is_text
from peersmeet.things import card_of, is_card, pieces_of
from tests.refusals import RefusalCase, any_things
from tests.test_things import like_texts

KEYS = ["k" + letter for letter in "mlkjihgfedcba"]


def hears(book, key, number, by, text):
    card = card_of(key, number, by, text=text)
    return book.heard(card, pieces_of(text or ""))


def seen(book):
    """All that a book tells."""
    return book.cards(), book.keys_of(), [book.look(key) for key in book.keys_of()], len(book)


class BookCase(RefusalCase):
    def setUp(self):
        self.book = Book()

    def refused_unchanged(self, kind, fields, call, *things, **named):
        ahead = seen(self.book)
        self.refused_with(kind, fields, call, *things, **named)
        self.assertEqual(seen(self.book), ahead)


class Interface(unittest.TestCase):
    def test_names_and_methods_of_its_own(self):
        told = {
            "__init__": "(self)", "put": "(self, key, text, *, by)", "take": "(self, key, *, by)",
            "heard": "(self, card, pieces)", "keys_of": "(self)", "look": "(self, key)", "card": "(self, key)",
            "cards": "(self)", "brought_together": "(self, other)", "__len__": "(self)", "__eq__": "(self, other)",
        }
        for name, form in told.items():
            self.assertEqual(str(inspect.signature(vars(Book)[name])), form)
        self.assertEqual(Book.__module__, "peersmeet.books")


class PutAndTaken(BookCase):
    def test_a_book_has_nothing_at_first(self):
        self.assertEqual(seen(self.book), ([], [], [], 0))

    def test_what_is_put_is_found(self):
        self.assertEqual(self.book.put("key", "some text", by="ben"), card_of("key", 1, "ben", text="some text"))
        self.assertEqual(self.book.look("key"), "some text")
        self.assertEqual(self.book.put("key", "", by="ada"), ("key", 2, "ada", ()))
        self.assertEqual(self.book.look("key"), "")
        self.assertEqual(self.book.card("key"), ("key", 2, "ada", ()))
        self.assertEqual((self.book.keys_of(), len(self.book)), (["key"], 1))

    def test_what_is_taken_away(self):
        self.book.put("key", "x", by="ben")
        self.assertEqual(self.book.take("key", by="ada"), ("key", 2, "ada", None))
        self.assertEqual((self.book.keys_of(), len(self.book)), ([], 0))
        self.assertEqual(self.book.card("key"), ("key", 2, "ada", None))
        self.assertEqual(self.book.cards(), [("key", 2, "ada", None)])
        self.refused_unchanged(Away, {"found": "key"}, self.book.look, "key")
        self.assertEqual(self.book.put("key", "y", by="cy"), card_of("key", 3, "cy", text="y"))
        self.assertEqual(self.book.look("key"), "y")

    def test_taken_away_of_what_is_not_there(self):
        key = "".join(["k", "ey"])
        self.refused(NotThere, key, self.book.take, key, by="ada")
        self.book.put("key", "x", by="ben")
        self.book.take("key", by="ben")
        self.refused(Away, key, self.book.take, key, by="ada")
        self.assertEqual(self.book.card("key"), ("key", 2, "ben", None))

    def test_numbers_at_their_bound(self):
        hears(self.book, "key", 999998, "ben", "x")
        self.assertEqual(self.book.put("key", "y", by="a")[1], 999999)
        self.refused_unchanged(TooMany, {"many": 1000000}, self.book.put, "key", "z", by="a")
        self.refused_unchanged(TooMany, {"many": 1000000}, self.book.take, "key", by="a")
        self.assertEqual(self.book.look("key"), "y")
        hears(self.book, "away", 999999, "ben", None)
        self.refused_unchanged(TooMany, {"many": 1000000}, self.book.put, "away", "z", by="a")
        self.refused_unchanged(Away, {"found": "away"}, self.book.take, "away", by="a")

    def test_a_thirteenth_key(self):
        for key in KEYS[:12]:
            self.book.put(key, "x", by="a")
        for key in KEYS[:5]:
            self.book.take(key, by="a")
        self.refused_unchanged(TooMany, {"many": 13}, self.book.put, KEYS[12], "x", by="a")
        for text in (None, "x"):
            card = card_of(KEYS[12], 1, "a", text=text)
            self.refused_unchanged(TooMany, {"many": 13}, self.book.heard, card, pieces_of(text or ""))
        self.refused_unchanged(NotThere, {"found": KEYS[12]}, self.book.take, KEYS[12], by="a")
        self.assertEqual(self.book.put(KEYS[0], "y", by="a")[1], 3)
        self.assertEqual(self.book.put(KEYS[11], "y", by="a")[1], 2)
        self.assertIs(hears(self.book, KEYS[1], 9, "b", "heard"), True)
        self.assertEqual(self.book.look(KEYS[1]), "heard")
        self.refused_unchanged(NoName, {"found": "A"}, self.book.put, KEYS[12], "x", by="A")
        self.refused_unchanged(NoText, {"found": None}, self.book.put, KEYS[12], None, by="a")

    def test_refused_in_the_order_of_the_interface(self):
        book = self.book
        self.refuses_all_but(NoName, is_name, lambda thing: book.put(thing, 5, by=5))
        self.refuses_all_but(NoText, is_text, lambda thing: book.put("key", thing, by=5))
        self.refuses_all_but(NoName, is_name, lambda thing: book.put("key", "x", by=thing))
        self.refuses_all_but(NoName, is_name, lambda thing: book.take(thing, by=5))
        self.refuses_all_but(NoName, is_name, lambda thing: book.take("none", by=thing))
        self.assertEqual(seen(book), ([], [], [], 0))


class Heard(BookCase):
    def test_a_greater_card_stands(self):
        self.assertIs(hears(self.book, "key", 3, "ben", "some text"), True)
        self.assertEqual(self.book.look("key"), "some text")
        for number, by, text, stands in (
            (2, "cy", "no", False), (3, "ada", "no", False), (3, "ben", "some text", False), (3, "ben", None, False),
            (3, "benny", "yes", True), (4, "a", None, True), (4, "a", "", True), (4, "a", None, False),
        ):
            ahead = seen(self.book)
            self.assertIs(hears(self.book, "key", number, by, text), stands)
            if stands:
                self.assertEqual(self.book.card("key"), card_of("key", number, by, text=text))
                self.assertEqual(self.book.keys_of(), [] if text is None else ["key"])
                if text is not None:
                    self.assertEqual(self.book.look("key"), text)
            else:
                self.assertEqual(seen(self.book), ahead)

    def test_of_equal_cards_the_first_text_stays(self):
        one, other = like_texts()
        card = self.book.put("key", one, by="a")
        self.assertIs(self.book.heard(card, (other,)), False)
        self.assertEqual(self.book.look("key"), one)

    def test_pieces_may_be_a_list_or_a_tuple_and_stay(self):
        pieces = ["abcdefgh", "i"]
        card = card_of("key", 1, "a", text="abcdefghi")
        self.book.heard(card, pieces)
        self.assertEqual(pieces, ["abcdefgh", "i"])
        pieces[1] = "j"
        self.assertEqual(self.book.look("key"), "abcdefghi")
        self.assertIs(Book().heard(card, ("abcdefgh", "i")), True)

    def test_the_first_wrong_piece(self):
        card = card_of("key", 1, "a", text="abcdefghi")
        for pieces, at in (([], 0), (["abcdefgh"], 1), (["abcdefgh", "j"], 1), (["no", "i"], 0),
                           (["abcdefgh", "i", "i"], 2), ([None, None], 0)):
            self.refused_unchanged(WrongPiece, {"at": at}, self.book.heard, card, pieces)
        self.refused_unchanged(WrongPiece, {"at": 0}, self.book.heard, card_of("key", 1, "a"), ["a"])

    def test_a_wrong_piece_goes_ahead_of_too_many_keys(self):
        for key in KEYS[:12]:
            self.book.put(key, "x", by="a")
        self.refused_unchanged(WrongPiece, {"at": 0}, self.book.heard, card_of(KEYS[12], 1, "a", text="x"), [])

    def test_a_wrong_piece_of_a_lesser_card(self):
        self.book.put("key", "x", by="b")
        self.refused_unchanged(WrongPiece, {"at": 0}, self.book.heard, card_of("key", 1, "a", text="x"), ["y"])

    def test_refused(self):
        self.refuses_all_but(NoCard, is_card, lambda thing: self.book.heard(thing, None))
        is_list = lambda thing: isinstance(thing, (list, tuple))
        self.refuses_all_but(NoList, is_list, lambda thing: self.book.heard(card_of("key", 1, "a"), thing))
        long = [None] * 101
        self.refused(NoList, long, self.book.heard, card_of("key", 1, "a"), long)
        self.assertEqual(seen(self.book), ([], [], [], 0))


class Told(BookCase):
    def test_keys_and_cards_rise(self):
        for key in ("c", "ab", "b", "a"):
            self.book.put(key, key, by="x")
        self.book.take("b", by="x")
        self.assertEqual(self.book.keys_of(), ["a", "ab", "c"])
        self.assertEqual([card[0] for card in self.book.cards()], ["a", "ab", "b", "c"])
        self.assertEqual(len(self.book), 3)

    def test_what_is_not_there(self):
        key = "".join(["k", "ey"])
        for call in (self.book.look, self.book.card):
            self.refused(NotThere, key, call, key)
            self.refuses_all_but(NoName, is_name, lambda thing: call(thing))

    def test_what_is_told_may_be_changed(self):
        self.book.put("a", "x", by="x")
        self.book.keys_of().append("b")
        self.book.cards().clear()
        self.assertEqual((self.book.keys_of(), len(self.book.cards())), (["a"], 1))

    def test_equal_books(self):
        other = Book()
        self.assertEqual(self.book, other)
        self.book.put("a", "x", by="b")
        self.assertNotEqual(self.book, other)
        hears(other, "a", 1, "b", "x")
        self.assertEqual(self.book, other)
        self.book.take("a", by="b")
        self.assertNotEqual(self.book, other)
        hears(other, "a", 2, "b", None)
        self.assertEqual(self.book, other)
        self.book.put("a", "x", by="b")
        hears(other, "a", 4, "b", "x")
        self.assertNotEqual(self.book, other)

    def test_unlike_texts_of_equal_cards(self):
        one, other = like_texts()
        books = [Book(), Book()]
        cards = [book.put("a", text, by="b") for book, text in zip(books, (one, other))]
        self.assertEqual(cards[0], cards[1])
        self.assertNotEqual(books[0], books[1])

    def test_no_thing_of_another_kind_is_equal(self):
        for thing in [thing for thing in any_things() if not isinstance(thing, Book)]:
            self.assertFalse(self.book == thing)


class BroughtTogether(BookCase):
    def test_of_each_key_the_greater_card_with_its_text(self):
        other = Book()
        hears(self.book, "a", 2, "b", "mine")
        hears(other, "a", 1, "b", "yours")
        hears(self.book, "b", 1, "b", "mine")
        hears(other, "b", 1, "c", None)
        hears(self.book, "c", 1, "b", "mine")
        hears(other, "d", 1, "b", "yours")
        both = [card_of("a", 2, "b", text="mine"), card_of("b", 1, "c"),
                card_of("c", 1, "b", text="mine"), card_of("d", 1, "b", text="yours")]
        for told in (self.book.brought_together(other), other.brought_together(self.book)):
            self.assertIs(type(told), Book)
            self.assertEqual(told.cards(), both)
            self.assertEqual([told.look(key) for key in told.keys_of()], ["mine", "mine", "yours"])
        self.assertEqual(len(self.book.cards()), 3)
        self.assertEqual(len(other.cards()), 3)

    def test_of_equal_cards_the_first_ones_text(self):
        one, other = like_texts()
        second = Book()
        self.book.put("a", one, by="b")
        second.put("a", other, by="b")
        self.assertEqual(self.book.brought_together(second).look("a"), one)
        self.assertEqual(second.brought_together(self.book).look("a"), other)

    def test_the_new_one_goes_its_own_way(self):
        self.book.put("a", "x", by="b")
        told = self.book.brought_together(self.book)
        self.assertEqual(told, self.book)
        told.put("a", "y", by="b")
        self.book.put("b", "z", by="b")
        self.assertEqual((self.book.look("a"), told.keys_of()), ("x", ["a"]))

    def test_more_than_twelve_keys(self):
        other = Book()
        for key in KEYS[:8]:
            self.book.put(key, "x", by="b")
        for key in KEYS[4:12]:
            other.put(key, "x", by="b")
            other.take(key, by="b")
        self.assertEqual(len(self.book.brought_together(other).cards()), 12)
        other.put(KEYS[12], "x", by="b")
        self.refused_unchanged(TooMany, {"many": 13}, self.book.brought_together, other)
        self.refused_with(TooMany, {"many": 13}, other.brought_together, self.book)
        first = Book()
        for key in "abcdefghijkl":
            first.put(key, "x", by="b")
        self.refused_with(TooMany, {"many": 20}, first.brought_together, self.book)

    def test_no_book(self):
        self.refuses_all_but(NoBook, lambda thing: isinstance(thing, Book), self.book.brought_together)


if __name__ == "__main__":
    unittest.main()
