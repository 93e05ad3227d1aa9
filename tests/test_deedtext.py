"""Point 121: deeds and cards written as rows, and read."""

import inspect
import random
import unittest

from peersmeet import deedtext
from peersmeet.deedtext import card_in, card_text, deed_in, deed_text, is_deed
from peersmeet.errors import NoCard, NoDeed
from peersmeet.things import card_of, is_card
from tests.histories import Deeds
from tests.refusals import RefusalCase, any_things

GREAT = 10 ** 30 - 1
ROWS = {
    "begin ada 0": ("begin", "ada", 0), "begin abcdefgh 255": ("begin", "abcdefgh", 255),
    "enter ben ada 9": ("enter", "ben", "ada", 9), "leave ada": ("leave", "ada"), "back ada": ("back", "ada"),
    "turn ada": ("turn", "ada"), "heal": ("heal",), "flow": ("flow",), "seek ada 200": ("seek", "ada", 200),
    "look ada key": ("look", "ada", "key"), "find ada key": ("find", "ada", "key"),
    "come 1": ("come", 1), "lose 20": ("lose", 20), "double 300": ("double", 300),
    f"come {GREAT}": ("come", GREAT), f"lose {GREAT}": ("lose", GREAT), f"double {GREAT}": ("double", GREAT),
    "stop ada kept": ("stop", "ada", True), "stop ada lost": ("stop", "ada", False),
    "lie ada pieces": ("lie", "ada", "pieces"), "lie ada steps": ("lie", "ada", "steps"),
    "lie ada silence": ("lie", "ada", "silence"), "lie ada none": ("lie", "ada", None),
    "cut ada / ben": ("cut", (("ada",), ("ben",))), "cut ada ben / ada / cy": ("cut", (("ada", "ben"), ("ada",), ("cy",))),
    "round": ("round", None), "rest": ("rest", None), "round in": ("round", ()), "rest in": ("rest", ()),
    "round in ada": ("round", ("ada",)), "rest in ben ada in": ("rest", ("ben", "ada", "in")),
    "put ada key =": ("put", "ada", "key", ""), "put ada key =a": ("put", "ada", "key", "a"),
    "put ada key = a  b ": ("put", "ada", "key", " a  b "), "put ada key =a = b=": ("put", "ada", "key", "a = b="),
    "put ada key ===": ("put", "ada", "key", "=="), "away ada key": ("put", "ada", "key", None),
    "say ada =": ("say", "ada", ""), "say ada =hello there": ("say", "ada", "hello there"),
    "say ada = =": ("say", "ada", " ="), "say say =say =": ("say", "say", "say ="),
    "put away put =away": ("put", "away", "put", "away"), "away put away": ("put", "put", "away", None),
    "fetch ada key 1 ben empty": ("fetch", "ada", ("key", 1, "ben", ())),
    "fetch ada key 999999 ben 0,64250,7": ("fetch", "ada", ("key", 999999, "ben", (0, 64250, 7))),
    "fetch none none 1 none empty": ("fetch", "none", ("none", 1, "none", ())),
    "cut " + " / ".join(["a b c d e f g h"] * 8): ("cut", (tuple("abcdefgh"),) * 8),
    "round in a b c d e f g h": ("round", tuple("abcdefgh")),
    "say ada =" + "~" * 60: ("say", "ada", "~" * 60),
}
CARDS = {
    "key 1 ben none": ("key", 1, "ben", None), "key 999999 ben empty": ("key", 999999, "ben", ()),
    "a 20 b 1": ("a", 20, "b", (1,)), "a 20 b 1,2,3,4,5,6,7,8": ("a", 20, "b", (1, 2, 3, 4, 5, 6, 7, 8)),
    "none 1 empty 0,64250": ("none", 1, "empty", (0, 64250)),
}


class Deed(RefusalCase):
    def test_names_and_arguments(self):
        forms = {is_deed: "(thing)", deed_text: "(deed)", card_text: "(card)", deed_in: "(thing)", card_in: "(thing)"}
        for call, form in forms.items():
            self.assertEqual((str(inspect.signature(call)), call.__module__), (form, deedtext.__name__))

    def test_each_form_written_and_read(self):
        for row, deed in ROWS.items():
            self.assertIs(is_deed(deed), True, deed)
            self.assertEqual(deed_text(deed), row)
            self.assertEqual(deed_in(row), deed)
            self.assertEqual([type(part) for part in deed_in(row)], [type(part) for part in deed])

    def test_each_part_of_another_kind(self):
        kinds = {
            "begin": (0, 1), "enter": (0, 0, 1), "leave": (0,), "back": (0,), "turn": (0,), "seek": (0, 1), "look": (0, 0),
            "find": (0, 0), "come": (2,), "lose": (2,), "double": (2,), "stop": (0, 3), "lie": (0, 4), "put": (0, 0, 5),
            "say": (0, 6), "fetch": (0, 7), "cut": (8,), "round": (9,), "rest": (9,),
        }
        wrong = [
            any_things()[:9] + ["A", "abcdefghi", "a b", ("a",), ["a"], {}],
            [None, True, False, -1, 256, "0", "a", (), [0]],
            [None, True, 0, -1, "1", 10 ** 30, [1], ()],
            [None, 0, 1, "kept", "", ()],
            ["none", "", "Steps", "silent", True, False, 0, ["steps"], ("steps",)],
            [True, 0, "x" * 61, "a\n", "100%", [], ()],
            [None, True, 0, "x" * 61, "a\n", "100%", [], ()],
            [None, (), ("a", 1, "b", None), ["a", 1, "b", ()], ("a", 0, "b", ()), ("a", True, "b", ()), ("a", 1, "b", []),
             ("a", 1, "b", (0,) * 9), ("a", 1, "b", (251,)), ("a", 1, "b", (256 * 251,)), ("a", 1, "b", (True,)), "a 1 b empty"],
            [None, (), (("a",),), (("a",), ()), (("a",), ["b"]), [("a",), ("b",)], (("a",), ("b",), "c"), (("a",), ("B",)),
             (("a",),) * 9, (("a",), ("a",) * 9), (("a",), "b"), "a / b", {}],
            [True, False, 0, "", "ada", [], ["ada"], ("Ada",), (None,), ("a",) * 9, {}, (("a",),)],
        ]
        seen = {}
        for deed in ROWS.values():
            for at, kind in enumerate(kinds.get(deed[0], ())):
                seen[deed[0]] = True
                for thing in wrong[kind]:
                    if kind == 0 and thing in ("a",):
                        continue
                    self.no_deed(deed[:at + 1] + (thing,) + deed[at + 2:])
        self.assertEqual(set(seen) | {"heal", "flow"}, {deed[0] for deed in ROWS.values()})

    def no_deed(self, thing):
        self.assertIs(is_deed(thing), False, thing)
        self.refused(NoDeed, thing, deed_text, thing)

    def test_what_is_no_deed(self):
        for thing in any_things() + list(ROWS) + [("heal", None), ("away", "ada", "key"), (["heal"],), ("Heal",), ("",), (None,)]:
            self.no_deed(thing)
        for deed in ROWS.values():
            self.no_deed(list(deed))
            self.no_deed(deed + (None,))
            self.no_deed(deed + ("a",))
            self.no_deed(("none",) + deed[1:])
            if len(deed) > 1:
                self.no_deed(deed[:-1])

    def test_one_that_is_possible_in_no_net(self):
        for deed in (("enter", "ada", "ada", 0), ("cut", (("ada",), ("ada", "ada"))), ("round", ("ada", "ada")), ("come", GREAT)):
            self.assertIs(is_deed(deed), True)
            self.assertEqual(deed_in(deed_text(deed)), deed)


class Read(RefusalCase):
    def no_row(self, thing):
        self.assertIsNone(deed_in(thing), thing)

    def test_what_writes_none(self):
        for thing in any_things() + list(ROWS.values()) + [[row] for row in ROWS]:
            self.no_row(thing)

    def test_blanks_and_signs(self):
        for row, deed in ROWS.items():
            self.no_row(" " + row)
            self.no_row("\n" + row)
            self.no_row(row + "\n")
            self.no_row(row.replace(" ", "  ", 1) if " " in row else row + "  ")
            self.no_row(row.replace(" ", "\n", 1) if " " in row else row + "\n\n")
            self.no_row(row.replace(" ", "\t", 1) if " " in row else row + "\t")
            self.no_row(row[1:])
            self.no_row(row.upper())
            if deed[0] != "say" and (deed[0] != "put" or deed[3] is None):
                self.no_row(row + " ")
                self.no_row(row + " =")
                self.no_row(row + "=")
                self.no_row(row + " A")

    def test_a_text_behind_its_sign(self):
        for row in ("say ada", "say ada ", "say ada=", "say ada =x" + "y" * 60, "say ada =a\n", "say ada hello", "say =x", "say  =x",
                    "say ada  =x", "say ada ben =x", "sayada =x", "say Ada =x", "=x", " =x", "=", "put ada key", "put ada key ",
                    "put ada key=x", "put ada =x", "put ada key key =x", "put ada Key =x", "put ada key  =x", "put ada key x",
                    "away ada key =x", "away ada key =", "away ada", "away ada key key", "away ada Key", "away", "put", "say",
                    "say ada =%", "put none", "say none", "put ada key none", "put ada key None"):
            self.no_row(row)
        # Of several signs the first one counts.
        self.assertEqual(deed_in("say ada ==x"), ("say", "ada", "=x"))
        self.assertEqual(deed_in("say ada =put ada key =x"), ("say", "ada", "put ada key =x"))

    def test_numbers_by_their_figures(self):
        for row in ("come 0", "come 01", "come 00", "come +1", "come -1", "come 1.0", "come 1_0", "come one", "come 1 2", "come",
                    f"come {10 ** 30}", "come " + "9" * 190, "begin ada 256", "begin ada -1", "begin ada 00", "begin ada 07",
                    "begin ada", "begin 0 ada", "begin ada 0 0", "seek ada 1000000", "seek ada 256", "seek ada one",
                    "fetch ada key 0 ben empty", "fetch ada key 1000000 ben empty", "fetch ada key 01 ben empty"):
            self.no_row(row)
        self.assertEqual(deed_in("begin ada 255"), ("begin", "ada", 255))

    def test_words_of_each_deed(self):
        for row in ("stop ada", "stop ada True", "stop ada keep", "stop ada Kept", "stop ada kept lost", "stop kept", "lie ada",
                    "lie ada None", "lie ada silent", "lie ada nothing", "lie ada none none", "lie none", "heal heal", "heal ada",
                    "flow 1", "flow ada", "leave", "leave ada ben", "leave Ada", "leave abcdefghi", "turn a1", "look ada",
                    "find ada key key", "enter ben ada", "enter ben ada ada", "enter ben 9", "begins ada 0", "names", "none", "net 2"):
            self.no_row(row)

    def test_sides_and_orders(self):
        for row in ("cut", "cut ada", "cut ada ben", "cut ada /", "cut / ada", "cut /", "cut / /", "cut ada / / ben", "cut ada/ben",
                    "cut ada / Ben", "cut ada / ben /", "cut ada // ben", "cut " + " / ".join(["a"] * 9),
                    "cut a / " + " ".join(["b"] * 9), "round ada", "round in Ada", "round in ada Ben", "round In", "round of ada",
                    "round in " + " ".join(["a"] * 9), "rest none", "rest in /", "rest 1", "rest ada in", "rest inada"):
            self.no_row(row)
        self.assertEqual(deed_in("round in in"), ("round", ("in",)))

    def test_all_rows_of_histories(self):
        words = set()
        for seed in range(120):
            for deed in Deeds(seed).deeds(80).deeds():
                words.add(deed[0])
                self.assertIs(is_deed(deed), True)
                self.assertEqual(deed_in(deed_text(deed)), deed)
        self.assertEqual(words, {deed[0] for deed in ROWS.values()})

    def test_what_is_read_is_written_just_so(self):
        chance = random.Random(5)
        rows = list(ROWS)
        read = 0
        for _ in range(20000):
            row = chance.choice(rows)
            at = chance.randrange(len(row) + 1)
            sign = chance.choice(" =/,0123456789abzinoe\nA%~")
            row = chance.choice([row[:at] + sign + row[at:], row[:at] + row[at + 1:], row[:at] + sign + row[at + 1:]])
            deed = deed_in(row)
            if deed is not None:
                read += 1
                self.assertIs(is_deed(deed), True)
                self.assertEqual(deed_text(deed), row)
            card = card_in(row.partition(" ")[2])
            if card is not None:
                self.assertEqual(card_text(card), row.partition(" ")[2])
        self.assertGreater(read, 1000)


class Cards(RefusalCase):
    def test_written_and_read(self):
        for row, card in CARDS.items():
            self.assertEqual((card_text(card), card_in(row)), (row, card))
        for text in (None, "", "x", "12345678", "x" * 60):
            card = card_of("key", 7, "ada", text=text)
            self.assertEqual(card_in(card_text(card)), card)

    def test_no_card(self):
        self.refuses_all_but(NoCard, is_card, card_text)
        for card in (("a", 0, "b", None), ["a", 1, "b", None], ("a", 1, "b", (True,)), ("a", 1, "b"), ("a", True, "b", ())):
            self.refused(NoCard, card, card_text, card)

    def test_what_writes_none(self):
        for thing in any_things() + list(CARDS.values()):
            self.assertIsNone(card_in(thing))
        for row in ("key 1 ben", "key 1 ben ", "key 1 ben none none", " key 1 ben none", "key  1 ben none", "key 1 ben None", "key 1 ben 1,",
                    "key 1 ben ,1", "key 1 ben 1,,2", "key 1 ben ,", "key 1 ben 01", "key 1 ben 1, 2", "key 1 ben 251", "key 1 ben 64256",
                    "key 1 ben 1,2,3,4,5,6,7,8,9", "key 1 ben empty,1", "key 1 ben none,none", "key 0 ben none", "key 01 ben none",
                    "key 1000000 ben none", "Key 1 ben none", "key 1 Ben none", "key one ben none", "key 1 ben none\n", "key 1 ben -1",
                    "key 1 ben empty ", "key 1 ben ()", "key 1 ben 1.5"):
            self.assertIsNone(card_in(row), row)


if __name__ == "__main__":
    unittest.main()
