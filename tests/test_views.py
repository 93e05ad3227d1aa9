"""Points 5 and 41 to 44, and the copy of 46: what a peer has heard of others, and talks."""

import inspect
import itertools
import unittest

from peersmeet import views
from peersmeet.errors import NoName, NoNumber, NoPlace, NotThere, NoView, NoWord, Twice
from peersmeet.marks import is_name, is_place
from peersmeet.views import View, talk
from tests.refusals import RefusalCase, any_things

WORDS = ("here", "silent", "gone")


def is_number(thing):
    return type(thing) is int and thing >= 1


def is_view(thing):
    return isinstance(thing, View)


class ViewCase(RefusalCase):
    def setUp(self):
        self.view = View("me", 7, number=5)

    def own(self):
        return self.view.told()["me"]


class Made(ViewCase):
    def test_names_defaults_and_methods_of_its_own(self):
        told = {
            "__init__": "(self, own, place, *, number=1)", "told": "(self)", "names": "(self)", "own": "(self)",
            "own_number": "(self)", "here": "(self)", "__len__": "(self)", "__eq__": "(self, other)",
            "__str__": "(self)", "hear": "(self, name, place, number, word)", "silence": "(self, name)",
            "leave": "(self)", "come_back": "(self)", "join": "(self, other)", "copied": "(self)",
        }
        for name, form in told.items():
            self.assertEqual(str(inspect.signature(vars(View)[name])), form)
        self.assertEqual(str(inspect.signature(talk)), "(one, other)")
        self.assertEqual((talk.__module__, View.__module__), (views.__name__, views.__name__))

    def test_at_first_it_has_its_own_name_alone(self):
        view = View("me", 7)
        self.assertEqual(view.told(), {"me": (7, 1, "here")})
        self.assertEqual((view.names(), view.own(), view.own_number(), len(view)), (["me"], "me", 1, 1))
        self.assertEqual((view.here(), str(view)), ([("me", 7)], "me 7 1 here"))
        self.assertEqual(self.view.own_number(), 5)
        self.assertEqual(View("me", 7, number=999999).own_number(), 999999)
        self.assertIsInstance(repr(view), str)

    def test_refused_in_the_order_of_the_interface(self):
        self.refuses_all_but(NoName, is_name, lambda thing: View(thing, "no", number="no"))
        self.refuses_all_but(NoPlace, is_place, lambda thing: View("me", thing, number="no"))
        self.refuses_all_but(NoNumber, is_number, lambda thing: View("me", 7, number=thing))

    def test_names_in_order_and_who_is_here(self):
        heard = [("b", 9, "here"), ("zz", 0, "here"), ("ab", 9, "here"), ("c", 1, "gone"), ("a", 2, "silent")]
        for name, place, word in heard:
            self.view.hear(name, place, 3, word)
        self.assertEqual(self.view.names(), ["a", "ab", "b", "c", "me", "zz"])
        self.assertEqual(list(self.view.told()), self.view.names())
        self.assertEqual(self.view.here(), [("zz", 0), ("me", 7), ("ab", 9), ("b", 9)])
        self.assertEqual(len(self.view), 6)
        self.assertEqual(str(self.view), "a 2 3 silent; ab 9 3 here; b 9 3 here; c 1 3 gone; me 7 5 here; zz 0 3 here")
        self.view.leave()
        self.assertEqual(self.view.here(), [("zz", 0), ("ab", 9), ("b", 9)])

    def test_equal_views_are_those_that_tell_the_same(self):
        other = View("you", 3, number=2)
        self.assertNotEqual(self.view, other)
        self.assertNotEqual(self.view, View("me", 7, number=4))
        self.assertNotEqual(self.view, View("me", 6, number=5))
        self.assertEqual(self.view, View("me", 7, number=5))
        self.view.hear("you", 3, 2, "here")
        self.assertNotEqual(self.view, other)
        other.hear("me", 7, 5, "here")
        self.assertEqual(self.view, other)
        other.leave()
        self.assertNotEqual(self.view, other)
        for thing in any_things() + [self.view.told(), str(self.view)]:
            self.assertFalse(self.view == thing)

    def test_what_is_told_may_be_changed(self):
        self.view.told().clear()
        self.view.names().clear()
        self.view.here().clear()
        self.assertEqual(self.view.told(), {"me": (7, 5, "here")})
        self.assertEqual((self.view.names(), self.view.here()), (["me"], [("me", 7)]))

    def test_a_copy_goes_its_own_way(self):
        self.view.hear("a", 1, 1, "here")
        self.view.leave()
        copy = self.view.copied()
        self.assertEqual((copy, copy.own(), copy.own_number()), (self.view, "me", 5))
        copy.hear("b", 1, 1, "here")
        copy.come_back()
        self.assertEqual(self.view.told(), {"a": (1, 1, "here"), "me": (7, 5, "gone")})
        self.view.silence("a")
        self.assertEqual(copy.told()["a"], (1, 1, "here"))


class HeardOfOthers(ViewCase):
    def test_what_is_behind_stands(self):
        rising = [(place, number, word)
                  for number, word, place in itertools.product((1, 2, 10), WORDS, (0, 9, 10, 255))]
        for (at, one), (behind, other) in itertools.product(enumerate(rising), repeat=2):
            view = View("me", 7)
            self.assertIs(view.hear("a", *one), True)
            self.assertEqual(view.told()["a"], one)
            self.assertIs(view.hear("a", *other), at < behind)
            self.assertEqual(view.told()["a"], rising[max(at, behind)])
            self.assertEqual(view.told()["me"], (7, 1, "here"))

    def test_refused_in_the_order_of_the_interface(self):
        view = self.view
        self.refuses_all_but(NoName, is_name, lambda thing: view.hear(thing, 300, 0, "no"))
        self.refuses_all_but(NoPlace, is_place, lambda thing: view.hear("a", thing, 0, "no"))
        self.refuses_all_but(NoNumber, is_number, lambda thing: view.hear("a", 1, thing, "no"))
        self.refuses_all_but(NoWord, lambda thing: False, lambda thing: view.hear("a", 1, 1, thing))
        for word in ("Here", "here ", "her", "kept"):
            self.refused_with(NoWord, {"found": word}, view.hear, "me", 7, 9, word)
        self.assertEqual(view.told(), {"me": (7, 5, "here")})


class HeardOfItself(ViewCase):
    def hears(self, place, number, word, behind, changes=True):
        """From what the view has, a hearing leaves this of its own name."""
        ahead = self.own()
        self.assertIs(self.view.hear("me", place, number, word), changes)
        self.assertEqual(self.own(), behind)
        self.assertIs(ahead != behind, changes)

    def test_here_a_lesser_number_changes_nothing(self):
        for place, number, word in itertools.product((6, 7, 8), (1, 3, 4), WORDS):
            self.hears(place, number, word, (7, 5, "here"), False)

    def test_here_an_equal_number(self):
        self.hears(7, 5, "here", (7, 5, "here"), False)
        self.hears(7, 5, "silent", (7, 6, "here"))
        self.hears(7, 6, "gone", (7, 7, "here"))

    def test_here_a_greater_number(self):
        self.hears(7, 9, "here", (7, 9, "here"))
        self.hears(7, 11, "silent", (7, 12, "here"))
        self.hears(7, 14, "gone", (7, 15, "here"))
        self.hears(7, 999998, "gone", (7, 999999, "here"))

    def test_here_another_place(self):
        number = 5
        for word, place in itertools.product(WORDS, (6, 8)):
            self.hears(place, number, word, (7, number + 1, "here"))
            self.hears(place, number + 3, word, (7, number + 4, "here"))
            number += 4

    def test_gone_another_place(self):
        self.view.leave()
        number = 5
        for word, place in itertools.product(WORDS, (6, 8)):
            self.hears(place, number - 1, word, (7, number, "gone"), False)
            self.hears(place, number, word, (7, number + 1, "gone"))
            self.hears(place, number + 3, word, (7, number + 4, "gone"))
            number += 4

    def test_gone_what_is_behind_stands(self):
        self.view.leave()
        for number, word in itertools.product((1, 4), WORDS):
            self.hears(7, number, word, (7, 5, "gone"), False)
        for word in WORDS:
            self.hears(7, 5, word, (7, 5, "gone"), False)
        self.hears(7, 6, "silent", (7, 6, "silent"))
        self.hears(7, 6, "here", (7, 6, "silent"), False)
        self.hears(7, 6, "silent", (7, 6, "silent"), False)
        self.hears(7, 6, "gone", (7, 6, "gone"))
        self.hears(7, 7, "here", (7, 7, "here"))
        self.hears(7, 7, "gone", (7, 8, "here"))

    def test_silent_another_place(self):
        self.view.leave()
        self.hears(7, 6, "silent", (7, 6, "silent"))
        self.hears(9, 6, "gone", (7, 7, "silent"))
        self.hears(9, 6, "gone", (7, 7, "silent"), False)


class SilentLeftAndBack(ViewCase):
    def test_a_name_is_silent(self):
        self.view.hear("a", 1, 3, "here")
        self.assertIs(self.view.silence("a"), None)
        self.assertEqual(self.view.told()["a"], (1, 3, "silent"))
        self.view.silence("a")
        self.assertEqual(self.view.told()["a"], (1, 3, "silent"))

    def test_one_that_is_gone_stays_so(self):
        self.view.hear("a", 1, 3, "gone")
        self.view.silence("a")
        self.assertEqual(self.view.told()["a"], (1, 3, "gone"))

    def test_silence_of_the_own_name_and_of_unknown_ones(self):
        own = "".join(["m", "e"])
        self.refused(NotThere, own, self.view.silence, own)
        self.refuses_all_but(NotThere, lambda thing: False, self.view.silence)
        self.assertEqual(self.view.told(), {"me": (7, 5, "here")})

    def test_the_own_peer_leaves_and_comes_back(self):
        self.assertIs(self.view.leave(), None)
        self.assertEqual(self.own(), (7, 5, "gone"))
        self.view.leave()
        self.assertEqual(self.own(), (7, 5, "gone"))
        self.assertIs(self.view.come_back(), None)
        self.assertEqual((self.own(), self.view.own_number()), ((7, 6, "here"), 6))
        self.view.come_back()
        self.assertEqual(self.own(), (7, 7, "here"))
        self.view.leave()
        self.view.hear("me", 7, 9, "silent")
        self.view.come_back()
        self.assertEqual(self.own(), (7, 10, "here"))
        self.view.hear("me", 7, 10, "silent")
        self.assertEqual(self.own(), (7, 11, "here"))
        self.view.leave()
        self.view.hear("me", 7, 12, "silent")
        self.view.leave()
        self.assertEqual(self.own(), (7, 12, "gone"))


class Joined(ViewCase):
    def test_a_view_hears_all_that_another_tells(self):
        other = View("you", 3)
        other.hear("me", 7, 5, "silent")
        other.hear("a", 1, 1, "gone")
        self.view.hear("a", 1, 2, "here")
        ahead = other.told()
        self.assertIs(self.view.join(other), True)
        self.assertEqual(self.view.told(), {"a": (1, 2, "here"), "me": (7, 6, "here"), "you": (3, 1, "here")})
        self.assertEqual(other.told(), ahead)
        self.assertIs(self.view.join(other), False)

    def test_whether_it_changed_is_told_wherever_it_did(self):
        for name in ("a", "z"):
            other = View("you", 3)
            self.view.join(other)
            other.hear(name, 1, 1, "here")
            self.assertIs(self.view.join(other), True)

    def test_views_of_one_name_may_be_joined(self):
        other = View("me", 9, number=8)
        self.assertIs(self.view.join(other), True)
        self.assertEqual(self.own(), (7, 9, "here"))
        self.assertIs(other.join(self.view), True)
        self.assertEqual(other.told(), {"me": (9, 10, "here")})

    def test_a_view_that_joins_itself(self):
        self.view.hear("a", 1, 1, "silent")
        for deed in (self.view.leave, self.view.come_back, self.view.leave):
            deed()
            ahead = self.view.told()
            self.assertIs(self.view.join(self.view), False)
            self.assertEqual(self.view.told(), ahead)

    def test_no_view(self):
        self.refuses_all_but(NoView, is_view, self.view.join)
        self.refused_with(NoView, {"found": None}, self.view.join, None)


class Talked(ViewCase):
    def test_behind_a_talk_views_are_equal(self):
        other = View("you", 3)
        self.assertEqual(talk(self.view, other), 1)
        self.assertEqual(self.view, other)
        self.assertEqual(other.told(), {"me": (7, 5, "here"), "you": (3, 1, "here")})
        self.assertEqual(talk(self.view, other), 0)

    def test_rounds_in_which_one_changed(self):
        other = View("you", 3)
        # The other one has the first one silent: the first one's number rises, and the other one hears it.
        other.hear("me", 7, 5, "silent")
        self.assertEqual(talk(self.view, other), 1)
        self.assertEqual((self.own(), other.told()["me"]), ((7, 6, "here"), (7, 6, "here")))
        # The first one has the other one silent: that one's number rises behind the first one's turn.
        self.view.silence("you")
        self.assertEqual(talk(self.view, other), 2)
        self.assertEqual((self.view.own_number(), other.own_number()), (6, 2))
        self.assertEqual(self.view.told()["you"], (3, 2, "here"))
        self.assertEqual(self.view, other)

    def test_all_talks_of_two_end_equal(self):
        of_me = list(itertools.product((7, 9), (4, 5, 6), WORDS))
        for heard, said in itertools.product(of_me, of_me[::3]):
            for left in (False, True):
                one, other = View("me", 7, number=5), View("you", 3, number=5)
                other.hear("me", *heard)
                one.hear("you", said[0] - 4, said[1], said[2])
                if left:
                    one.leave()
                self.assertIn(talk(one, other), (0, 1, 2))
                self.assertEqual(one.told(), other.told())
                self.assertEqual((one.told()["me"][0], one.told()["you"][0]), (7, 3))
                self.assertEqual(talk(other, one), 0)

    def test_two_of_one_name_do_not_talk(self):
        other = View("".join(["m", "e"]), 9, number=2)
        self.refused_with(Twice, {"found": "me"}, talk, self.view, other)
        self.refused_with(Twice, {"found": "me"}, talk, self.view, self.view)
        self.assertEqual((self.own(), other.told()), ((7, 5, "here"), {"me": (9, 2, "here")}))

    def test_no_views(self):
        self.refuses_all_but(NoView, is_view, lambda thing: talk(thing, None))
        self.refuses_all_but(NoView, is_view, lambda thing: talk(self.view, thing))
        self.assertEqual(self.view.told(), {"me": (7, 5, "here")})


if __name__ == "__main__":
    unittest.main()
