"""Point 94: roads and their letters."""

import inspect
import unittest

from peersmeet import roads
from peersmeet.errors import NotOnRoad
from peersmeet.roads import Roads
from tests.refusals import RefusalCase, any_things

LETTERS = [("ada", "ben", ("ada", 1, at, "hi"), ("ada", 50)) for at in (1, 2, 3)]


class RoadsCase(RefusalCase):
    def setUp(self):
        self.roads = Roads()
        for letter in LETTERS:
            self.roads.put(letter)

    def told(self, one=None):
        one = self.roads if one is None else one
        return [(number, one.letter(number)) for number in one.numbers()]

    def test_names_and_methods_of_its_own(self):
        told = {"put": "(self, letter)", "__init__": "(self)", "__len__": "(self)", "numbers": "(self)", "copied": "(self)"}
        told.update({name: "(self, number)" for name in ("take_off", "letter", "doubled")})
        for name, form in told.items():
            self.assertEqual(str(inspect.signature(vars(Roads)[name])), form)
        self.assertEqual(Roads.__module__, roads.__name__)
        self.assertIsInstance(repr(Roads()), str)

    def test_numbers_from_one_on(self):
        empty = Roads()
        self.assertEqual((empty.numbers(), len(empty)), ([], 0))
        self.assertEqual([empty.put(letter) for letter in LETTERS], [1, 2, 3])
        self.assertEqual((empty.numbers(), len(empty)), ([1, 2, 3], 3))
        self.assertEqual(self.told(), list(zip((1, 2, 3), LETTERS)))

    def test_taken_off_and_told(self):
        self.assertEqual(self.roads.take_off(2), LETTERS[1])
        self.assertEqual(self.told(), [(1, LETTERS[0]), (3, LETTERS[2])])
        self.refused_with(NotOnRoad, {"found": 2}, self.roads.take_off, 2)
        self.assertEqual(self.roads.letter(3), LETTERS[2])
        self.assertEqual(len(self.roads), 2)

    def test_numbers_go_on_rising_when_all_were_taken_off(self):
        for number in (3, 1, 2):
            self.roads.take_off(number)
        self.assertEqual((self.roads.numbers(), len(self.roads)), ([], 0))
        self.assertEqual([self.roads.put(LETTERS[0]), self.roads.doubled(4)], [4, 5])

    def test_doubled(self):
        self.assertEqual(self.roads.doubled(2), 4)
        self.assertEqual(self.roads.doubled(4), 5)
        self.assertEqual(self.told()[3:], [(4, LETTERS[1]), (5, LETTERS[1])])
        self.roads.take_off(2)
        self.assertEqual(self.roads.numbers(), [1, 3, 4, 5])

    def test_not_on_road(self):
        for call in (self.roads.take_off, self.roads.letter, self.roads.doubled):
            self.refuses_all_but(NotOnRoad, lambda thing: type(thing) is int and thing == 1, call)
            for thing in (True, 0, 4, -1, "1", [1], (1,), {1: 1}):
                self.refused(NotOnRoad, thing, call, thing)
        self.assertEqual(self.told(), list(zip((1, 2, 3), LETTERS)))
        self.assertEqual(self.roads.put(LETTERS[0]), 4)

    def test_a_copy_goes_its_own_way(self):
        self.roads.take_off(3)
        copy = self.roads.copied()
        self.assertIs(type(copy), Roads)
        self.assertEqual(self.told(copy), self.told())
        # The last number that was given is the same, too.
        self.assertEqual((copy.put(LETTERS[2]), copy.take_off(1)), (4, LETTERS[0]))
        self.assertEqual(self.told(), [(1, LETTERS[0]), (2, LETTERS[1])])
        self.assertEqual(self.roads.doubled(1), 4)
        self.assertEqual(self.told(copy), [(2, LETTERS[1]), (4, LETTERS[2])])

    def test_what_is_told_is_the_askers_own(self):
        self.roads.numbers().clear()
        self.assertEqual(self.roads.numbers(), [1, 2, 3])

    def test_roads_equal_no_other_things(self):
        for thing in any_things() + [Roads()]:
            self.assertFalse(self.roads == thing)


if __name__ == "__main__":
    unittest.main()
