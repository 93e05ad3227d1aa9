"""Point 45, and of 46 the copy: wrongs that were seen, and how they are forgotten."""

import inspect
import unittest

from peersmeet.errors import NoName
from peersmeet.marks import is_name
from peersmeet.wrongs import Wrongs
from tests.refusals import RefusalCase, any_things


class WrongsCase(RefusalCase):
    def setUp(self):
        self.wrongs = Wrongs()

    def see(self, *names):
        return [self.wrongs.seen(name) for name in names]

    def turns(self, many):
        return [self.wrongs.turn() for _ in range(many)]


class Seen(WrongsCase):
    def test_names_and_methods_of_its_own(self):
        told = {
            "__init__": "(self)", "seen": "(self, name)", "turn": "(self)", "passes": "(self, name)",
            "count_of": "(self, name)", "told": "(self)", "copied": "(self)", "__len__": "(self)",
            "__eq__": "(self, other)", "__str__": "(self)",
        }
        for name, form in told.items():
            self.assertEqual(str(inspect.signature(vars(Wrongs)[name])), form)

    def test_at_first_there_are_none(self):
        wrongs = self.wrongs
        self.assertEqual((wrongs.told(), len(wrongs), str(wrongs), wrongs.turn()), ({}, 0, "", []))
        self.assertEqual((wrongs.count_of("a"), wrongs.passes("a")), (0, False))
        self.assertIsInstance(repr(wrongs), str)

    def test_each_wrong_is_counted_and_the_count_is_told(self):
        self.assertEqual(self.see("b", "a", "b", "b", "b"), [1, 1, 2, 3, 4])
        self.assertEqual(self.wrongs.told(), {"a": (1, 5), "b": (4, 5)})
        self.assertEqual(list(self.wrongs.told()), ["a", "b"])
        self.assertEqual((self.wrongs.count_of("a"), self.wrongs.count_of("b"), len(self.wrongs)), (1, 4, 2))

    def test_as_a_text(self):
        self.see("zz", "b")
        self.turns(1)
        self.see("b", "ab")
        self.assertEqual(str(self.wrongs), "ab 1 5; b 2 5; zz 1 4")

    def test_a_second_wrong_is_not_passed_over_a_third_is(self):
        for passes in (False, False, True, True):
            self.see("a")
            self.assertIs(self.wrongs.passes("a"), passes)
        self.assertIs(self.wrongs.passes("b"), False)

    def test_of_any_thing_it_is_told_whether_it_is_passed_over(self):
        self.see("a", "a", "a")
        for thing in any_things():
            self.assertIs(self.wrongs.passes(thing), thing == "a" and isinstance(thing, str))


class Forgotten(WrongsCase):
    def test_behind_five_turns_not_behind_four(self):
        self.see("b", "a", "b", "b")
        for left in (4, 3, 2, 1):
            self.assertEqual(self.turns(1), [[]])
            self.assertEqual(self.wrongs.told(), {"a": (1, left), "b": (3, left)})
        self.assertIs(self.wrongs.passes("b"), True)
        self.assertEqual(self.turns(1), [["a", "b"]])
        self.assertEqual((self.wrongs.told(), self.wrongs.passes("b"), self.see("b")), ({}, False, [1]))

    def test_a_wrong_more_leaves_five_turns_to_all(self):
        self.see("a", "b")
        self.turns(4)
        self.see("a")
        self.assertEqual(self.turns(1), [["b"]])
        self.assertEqual(self.wrongs.told(), {"a": (2, 4)})
        self.assertEqual(self.turns(5), [[], [], [], ["a"], []])


class EqualAndCopied(WrongsCase):
    def test_equal_are_those_with_equal_dicts(self):
        other = Wrongs()
        self.assertEqual(self.wrongs, other)
        self.see("a", "b")
        self.assertNotEqual(self.wrongs, other)
        other.seen("b")
        other.seen("a")
        self.assertEqual(self.wrongs, other)
        other.turn()
        self.assertNotEqual(self.wrongs, other)
        self.turns(1)
        self.assertEqual(self.wrongs, other)
        other.seen("a")
        self.see("b")
        self.assertNotEqual(self.wrongs, other)
        for thing in any_things() + [self.wrongs.told(), str(self.wrongs)]:
            self.assertFalse(self.wrongs == thing)

    def test_a_copy_goes_its_own_way(self):
        self.see("a", "b")
        copy = self.wrongs.copied()
        self.assertEqual(copy, self.wrongs)
        copy.seen("a")
        self.turns(1)
        self.assertEqual(copy.told(), {"a": (2, 5), "b": (1, 5)})
        self.assertEqual(self.wrongs.told(), {"a": (1, 4), "b": (1, 4)})

    def test_what_is_told_may_be_changed(self):
        self.see("a")
        self.wrongs.told().clear()
        self.assertEqual(self.wrongs.told(), {"a": (1, 5)})
        self.turns(4)
        self.turns(1)[0].clear()
        self.wrongs.turn().append("x")
        self.assertEqual(self.wrongs.turn(), [])


class Refused(WrongsCase):
    def test_no_name(self):
        self.see("a")
        self.refuses_all_but(NoName, is_name, self.wrongs.seen)
        self.refuses_all_but(NoName, is_name, self.wrongs.count_of)
        self.assertEqual(self.wrongs.told(), {"a": (1, 5)})


if __name__ == "__main__":
    unittest.main()
