"""Points 2 and 11 to 15: kinds of any thing, ways, places, marks, numbers and words in texts."""

import inspect
import unittest

from peersmeet import marks
from peersmeet.errors import NoName, NoNumber, NoPiece, NoPlace, NoText
from peersmeet.marks import is_name, is_place, is_text, is_whole, mark_of, number_in, piece_place
from peersmeet.marks import place_behind, place_of, way_on, words_in
from tests.refusals import RefusalCase, any_things


def is_int(thing):
    return type(thing) is int


class Bounds(unittest.TestCase):
    def test_the_numbers_of_the_interface(self):
        told = (marks.RING, marks.MOST_PEERS, marks.MOST_KEYS, marks.MOST_PIECES, marks.MOST_COPIES)
        self.assertEqual(told, (256, 8, 12, 8, 4))
        self.assertEqual(marks.MOST_NUMBER, 999999)

    def test_names_defaults_and_what_stands_behind_a_star(self):
        told = {
            is_whole: "(thing, low, high)", is_name: "(thing)", is_text: "(thing)", is_place: "(thing)",
            way_on: "(one, other)", place_behind: "(place, many)", place_of: "(key)",
            piece_place: "(key, at)", mark_of: "(text)", words_in: "(thing)",
            number_in: "(thing, *, low=0, high=999999)",
        }
        for function, form in told.items():
            self.assertEqual(str(inspect.signature(function)), form)
            self.assertEqual(function.__module__, "peersmeet.marks")


class Whole(RefusalCase):
    def test_both_ends_are_counted(self):
        self.assertEqual([is_whole(k, 3, 5) for k in range(1, 8)], [False, False, True, True, True, False, False])
        self.assertIs(is_whole(-7, -7, -7), True)
        self.assertIs(is_whole(10 ** 29, 0, 10 ** 29), True)

    def test_true_and_false_are_no_whole_numbers(self):
        self.assertIs(is_whole(True, 0, 5), False)
        self.assertIs(is_whole(False, 0, 5), False)

    def test_low_may_be_the_greater_one(self):
        for k in range(10):
            self.assertIs(is_whole(k, 6, 5), False)

    def test_of_any_thing_a_truth_is_told(self):
        for thing in any_things():
            self.assertIs(is_whole(thing, 0, 256), is_int(thing) and 0 <= thing <= 256)

    def test_low_and_high_that_are_no_numbers(self):
        self.refuses_all_but(NoNumber, is_int, lambda thing: is_whole(1, thing, "no"))
        self.refuses_all_but(NoNumber, is_int, lambda thing: is_whole("no", 1, thing))


class Names(unittest.TestCase):
    def test_names(self):
        for thing in ("a", "z", "ab", "zyxwvuts", "abcdefgh"):
            self.assertIs(is_name(thing), True)

    def test_a_name_has_one_to_eight_letters(self):
        self.assertIs(is_name("abcdefgh"), True)
        self.assertIs(is_name("abcdefghi"), False)
        self.assertIs(is_name(""), False)

    def test_no_names(self):
        for thing in ("A", "aB", "a1", "1", "a b", " a", "a\n", "`", "{", "a-b", "\u00e9", "\u00df", "\uff41", b"a"):
            self.assertIs(is_name(thing), False)
        for thing in any_things():
            self.assertIs(is_name(thing), thing == "a")


class Texts(unittest.TestCase):
    def test_each_sign_from_the_blank_to_the_tilde_but_one(self):
        for k in range(300):
            self.assertIs(is_text("ab" + chr(k)), 32 <= k <= 126 and k != 37)

    def test_at_most_sixty_signs(self):
        self.assertIs(is_text(""), True)
        self.assertIs(is_text("x" * 60), True)
        self.assertIs(is_text("x" * 61), False)

    def test_no_texts(self):
        for thing in any_things():
            right = isinstance(thing, str) and len(thing) <= 60 and "%" not in thing and "\n" not in thing
            self.assertIs(is_text(thing), right)


class Places(RefusalCase):
    def test_places(self):
        self.assertEqual([is_place(k) for k in (-1, 0, 255, 256)], [False, True, True, False])
        for thing in any_things():
            self.assertIs(is_place(thing), is_int(thing) and thing in (0, 1))

    def test_the_way_goes_forward_and_round(self):
        self.assertEqual(way_on(3, 10), 7)
        self.assertEqual(way_on(10, 3), 249)
        self.assertEqual(way_on(255, 0), 1)
        self.assertEqual(way_on(0, 255), 255)
        self.assertEqual(way_on(9, 9), 0)

    def test_the_place_behind_and_ahead(self):
        self.assertEqual(place_behind(255, 1), 0)
        self.assertEqual(place_behind(0, -1), 255)
        self.assertEqual(place_behind(7, 0), 7)
        self.assertEqual(place_behind(7, 256), 7)
        self.assertEqual(place_behind(7, -600), (7 - 600) % 256)
        self.assertEqual(place_behind(1, 10 ** 29), (1 + 10 ** 29) % 256)

    def test_way_and_place_belong_together(self):
        for one in range(0, 256, 5):
            for other in range(0, 256, 7):
                self.assertEqual(place_behind(one, way_on(one, other)), other)
                self.assertEqual(place_behind(other, -way_on(one, other)), one)

    def test_refused(self):
        self.refuses_all_but(NoPlace, is_place, lambda thing: way_on(thing, "no"))
        self.refuses_all_but(NoPlace, is_place, lambda thing: way_on(0, thing))
        self.refuses_all_but(NoPlace, is_place, lambda thing: place_behind(thing, "no"))
        self.refuses_all_but(NoNumber, is_int, lambda thing: place_behind(0, thing))


class PlacesOfKeys(RefusalCase):
    def test_the_places_that_the_document_names(self):
        self.assertEqual(place_of("a"), 232)
        self.assertEqual(place_of("ab"), 234)

    def test_each_letter_counts(self):
        self.assertEqual(place_of("z"), (7 * 33 + 26) % 256)
        self.assertEqual(place_of("zab"), (((7 * 33 + 26) * 33 + 1) * 33 + 2) % 256)
        self.assertNotEqual(place_of("abcdefgh"), place_of("abcdefgi"))

    def test_pieces_lie_ever_thirty_two_places_behind(self):
        self.assertEqual([piece_place("a", at) for at in range(8)], [8, 40, 72, 104, 136, 168, 200, 232])
        self.assertEqual(piece_place("ab", 0), 10)

    def test_refused(self):
        self.refuses_all_but(NoName, is_name, place_of)
        self.refuses_all_but(NoName, is_name, lambda thing: piece_place(thing, "no"))
        self.refuses_all_but(NoPiece, lambda thing: is_whole(thing, 0, 7), lambda thing: piece_place("a", thing))
        self.refused_with(NoPiece, {"found": 8}, piece_place, "a", 8)
        self.refused_with(NoPiece, {"found": -1}, piece_place, "a", -1)


class Marks(RefusalCase):
    def test_the_marks_that_the_document_names(self):
        self.assertEqual(mark_of(""), 1)
        self.assertEqual(mark_of("a"), 256 * 98 + 98)

    def test_a_mark_worked_out_by_hand(self):
        # Sums behind `~`, 126: 127 and 127; behind the next one 253 - 251 = 2 and 129.
        self.assertEqual(mark_of("~~"), 256 * 129 + 2)
        # 2 + 125 = 127 and 129 + 127 = 256 - 251 = 5.
        self.assertEqual(mark_of("~~}"), 256 * 5 + 127)

    def test_one_unlike_sign_makes_an_unlike_mark(self):
        signs = [chr(k) for k in range(32, 127) if k != 37]
        for at in (0, 3, 7):
            row = list("unlikely")
            told = []
            for sign in signs:
                row[at] = sign
                told.append(mark_of("".join(row)))
            self.assertEqual(len(set(told)), len(signs))

    def test_order_counts(self):
        self.assertNotEqual(mark_of("ab"), mark_of("ba"))

    def test_refused(self):
        self.refuses_all_but(NoText, is_text, mark_of)


class Numbers(RefusalCase):
    def test_numbers(self):
        self.assertEqual([number_in(text) for text in ("0", "7", "10", "999999")], [0, 7, 10, 999999])
        self.assertIs(type(number_in("7")), int)

    def test_bounds(self):
        self.assertIs(number_in("1000000"), None)
        self.assertEqual(number_in("1000000", high=1000000), 1000000)
        self.assertEqual([number_in(str(k), low=2, high=4) for k in range(6)], [None, None, 2, 3, 4, None])
        self.assertIs(number_in("3", low=4, high=2), None)
        self.assertIs(number_in("0", low=-5, high=-1), None)
        self.assertEqual(number_in("9" * 30, high=10 ** 30), 10 ** 30 - 1)

    def test_no_zero_ahead_of_other_figures(self):
        for text in ("00", "01", "007", "0999"):
            self.assertIs(number_in(text), None)

    def test_figures_alone(self):
        for text in ("", "-1", "+1", " 1", "1 ", "1\n", "1_0", "1.0", "a", "1a", "0x1", "\u0661", "\u00b2"):
            self.assertIs(number_in(text, low=-9), None)

    def test_long_texts(self):
        self.assertIs(number_in("9" * 20000), None)
        self.assertIs(number_in("1" * 19999 + "x"), None)

    def test_no_texts(self):
        for thing in any_things():
            self.assertIs(number_in(thing), None)

    def test_refused(self):
        self.refuses_all_but(NoNumber, is_int, lambda thing: number_in(None, low=thing, high="no"))
        self.refuses_all_but(NoNumber, is_int, lambda thing: number_in("5", high=thing))


class Words(unittest.TestCase):
    def test_words(self):
        self.assertEqual(words_in("one"), ["one"])
        self.assertEqual(words_in("one two 3 =x"), ["one", "two", "3", "=x"])
        self.assertEqual(words_in("="), ["="])

    def test_where_blanks_or_line_feeds_stand(self):
        for text in ("", " ", "a  b", " a", "a ", "a b ", "\n", "a\nb", "a b\n", "a \n b"):
            self.assertIs(words_in(text), None)

    def test_no_texts(self):
        for thing in any_things():
            right = isinstance(thing, str) and thing not in ("", " " * 61) and "\n" not in thing
            self.assertEqual(words_in(thing), thing.split(" ") if right else None)

    def test_what_is_told_is_the_askers_own(self):
        told = words_in("a b")
        told.append("c")
        self.assertEqual(words_in("a b"), ["a", "b"])


if __name__ == "__main__":
    unittest.main()
