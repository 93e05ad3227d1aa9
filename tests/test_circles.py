"""Points 3 and 21 to 23: circles, keepers, stretches and fingers."""

import inspect
import itertools
import unittest

from peersmeet.circles import Circle
from peersmeet.errors import NoList, NoName, NoNumber, NoPeers, NoPlace, NotThere, Twice
from peersmeet.marks import is_name, is_place
from tests.refusals import RefusalCase, any_things

LETTERS = "abcdefghij"


def worlds():
    """Circles of none to eight peers, with neighbours, ends of the ring and shared places."""
    rows = [[], [("b", 7)], [("b", 7), ("a", 7)], [("c", 0), ("a", 255), ("b", 0)]]
    for shift in (0, 37, 113):
        for many in range(1, 9):
            rows.append([(LETTERS[(k * 3) % 8], (shift + 61 * k * k) % 256) for k in range(many)])
    rows.append([(LETTERS[7 - k], 12 * (k // 3)) for k in range(8)])
    rows.append([(LETTERS[k], 200) for k in range(8)])
    return rows


def walked_keepers(peers, place, copies):
    """Keepers as one finds them who walks from the place on, once round."""
    found = sorted(peers, key=lambda peer: ((peer[1] - place) % 256, peer[0]))
    return [name for name, _ in found][:copies]


class Made(RefusalCase):
    def test_names_defaults_and_methods_of_its_own(self):
        told = {
            "__init__": "(self, peers)", "peers": "(self)", "names": "(self)", "has": "(self, thing)",
            "place": "(self, name)", "without": "(self, names)", "next_of": "(self, name)",
            "before": "(self, name)", "keeper": "(self, place)", "keepers": "(self, place, copies)",
            "stretch": "(self, name)", "fingers": "(self, name)", "__len__": "(self)", "__str__": "(self)",
            "__repr__": "(self)", "__eq__": "(self, other)",
        }
        for name, form in told.items():
            self.assertEqual(str(inspect.signature(vars(Circle)[name])), form)

    def test_peers_come_in_order(self):
        circle = Circle([("c", 9), ("b", 200), ("z", 9), ("a", 100)])
        self.assertEqual(circle.peers(), [("c", 9), ("z", 9), ("a", 100), ("b", 200)])
        self.assertEqual(circle.names(), ["c", "z", "a", "b"])
        self.assertEqual(len(circle), 4)
        self.assertEqual(str(circle), "c 9, z 9, a 100, b 200")
        self.assertIsInstance(repr(circle), str)

    def test_of_none_of_one_and_of_eight(self):
        empty = Circle([])
        self.assertEqual((len(empty), empty.peers(), empty.names(), str(empty)), (0, [], [], ""))
        self.assertEqual(str(Circle((("a", 0),))), "a 0")
        eight = [(name, 10) for name in LETTERS[:8]]
        self.assertEqual(len(Circle(eight)), 8)
        nine = [(name, 10) for name in LETTERS[:9]]
        self.refused(NoPeers, nine, Circle, nine)

    def test_any_order_makes_an_equal_circle(self):
        peers = [("c", 9), ("b", 200), ("a", 9)]
        for row in itertools.permutations(peers):
            self.assertEqual(Circle(row), Circle(peers))
            self.assertFalse(Circle(row) != Circle(peers))
            self.assertEqual(Circle(list(row)).peers(), [("a", 9), ("c", 9), ("b", 200)])

    def test_unlike_circles_and_other_things(self):
        circle = Circle([("a", 1)])
        for other in ([("a", 2)], [("b", 1)], [], [("a", 1), ("b", 1)]):
            self.assertNotEqual(circle, Circle(other))
        for thing in [[("a", 1)], (("a", 1),), "a 1", None] + any_things():
            self.assertFalse(circle == thing)

    def test_what_is_handed_in_stays_and_is_not_kept(self):
        peers = [("b", 5), ("a", 3)]
        circle = Circle(peers)
        self.assertEqual(peers, [("b", 5), ("a", 3)])
        peers.append(("c", 9))
        peers[0] = ("d", 1)
        self.assertEqual(circle.peers(), [("a", 3), ("b", 5)])

    def test_what_is_told_may_be_changed(self):
        circle = Circle([("b", 5), ("a", 3)])
        for told in (circle.peers(), circle.names(), circle.keepers(0, 2), circle.fingers("a")):
            told.clear()
        self.assertEqual(circle.peers(), [("a", 3), ("b", 5)])
        self.assertEqual(circle.names(), ["a", "b"])
        self.assertEqual(circle.keepers(0, 2), ["a", "b"])
        self.assertEqual(len(circle.fingers("a")), 8)

    def test_the_whole_is_refused(self):
        for thing in any_things():
            if thing != [] and thing != () and not isinstance(thing, (list, tuple)):
                self.refused(NoPeers, thing, Circle, thing)

    def test_peers_are_refused_thing_by_thing(self):
        for thing in any_things():
            if not (isinstance(thing, tuple) and len(thing) == 2):
                self.refused(NoPeers, thing, Circle, [("a", 1), thing, ("B", 1)])
            if not is_name(thing):
                self.refused(NoName, thing, Circle, [("a", 1), (thing, "no")])
            if not is_place(thing):
                self.refused(NoPlace, thing, Circle, [("a", 1), ("a", thing)])
        long = ("a", 1, 2)
        self.refused(NoPeers, long, Circle, [long])
        self.refused_with(NoPlace, {"found": 256}, Circle, [("a", 256)])

    def test_a_name_twice(self):
        again = "".join(["a", "b"])
        self.refused(Twice, again, Circle, [("ab", 1), ("c", 2), (again, 3), ("D", 4)])
        self.refused_with(NoPlace, {"found": -1}, Circle, [("a", -1), ("a", 0)])

    def test_the_first_refusal_that_is_due_goes(self):
        nine = [None] * 9
        self.refused(NoPeers, nine, Circle, nine)
        self.refused_with(NoName, {"found": "A"}, Circle, [("A", 300), ("a", 1), ("a", 1), 5])


class Asked(RefusalCase):
    def setUp(self):
        self.circle = Circle([("c", 250), ("a", 10), ("b", 100)])

    def test_has_and_place(self):
        self.assertIs(self.circle.has("a"), True)
        self.assertIs(self.circle.has("d"), False)
        for thing in any_things():
            self.assertIs(self.circle.has(thing), thing == "a")
        self.assertEqual([self.circle.place(name) for name in "abc"], [10, 100, 250])

    def test_without(self):
        self.assertEqual(self.circle.without(["b"]), Circle([("a", 10), ("c", 250)]))
        self.assertEqual(self.circle.without(("b", "b", "x", None, [], {}, "a", "c")), Circle([]))
        self.assertEqual(self.circle.without([]), self.circle)
        self.assertEqual(self.circle.without(any_things()), Circle([("b", 100), ("c", 250)]))
        self.assertEqual(len(self.circle), 3)
        self.assertIs(type(self.circle.without([])), Circle)
        self.refuses_all_but(NoList, lambda thing: isinstance(thing, (list, tuple)), self.circle.without)

    def test_next_and_before_go_round(self):
        self.assertEqual([self.circle.next_of(name) for name in "abc"], ["b", "c", "a"])
        self.assertEqual([self.circle.before(name) for name in "abc"], ["c", "a", "b"])
        alone = Circle([("a", 3)])
        self.assertEqual((alone.next_of("a"), alone.before("a")), ("a", "a"))
        shared = Circle([("b", 3), ("a", 3)])
        self.assertEqual((shared.next_of("a"), shared.next_of("b")), ("b", "a"))
        self.assertEqual((shared.before("a"), shared.before("b")), ("b", "a"))

    def test_what_is_no_name_of_it(self):
        circle = self.circle
        for call in (circle.place, circle.next_of, circle.before, circle.stretch, circle.fingers):
            self.refuses_all_but(NotThere, lambda thing: thing == "a", call)
            self.refused_with(NotThere, {"found": "d"}, call, "d")
            self.assertIsInstance(self.refusal(call, "d"), KeyError)
        self.refused_with(NotThere, {"found": "a"}, Circle([]).stretch, "a")


class Keepers(RefusalCase):
    def test_by_hand(self):
        circle = Circle([("c", 250), ("a", 10), ("b", 100)])
        places = (0, 10, 11, 100, 101, 250, 251, 255)
        self.assertEqual([circle.keeper(place) for place in places], list("aabbccaa"))
        self.assertEqual(circle.keepers(101, 1), ["c"])
        self.assertEqual(circle.keepers(101, 2), ["c", "a"])
        self.assertEqual(circle.keepers(11, 4), ["b", "c", "a"])

    def test_a_circle_without_peers(self):
        for place in (0, 99, 255):
            self.assertIs(Circle([]).keeper(place), None)
            self.assertEqual(Circle([]).keepers(place, 3), [])

    def test_as_one_finds_them_who_walks(self):
        for peers in worlds():
            circle = Circle(peers)
            for place in range(256):
                for copies in (1, 2, 3, 4):
                    self.assertEqual(circle.keepers(place, copies), walked_keepers(peers, place, copies))
                self.assertEqual([circle.keeper(place)], walked_keepers(peers, place, 1) or [None])

    def test_refused(self):
        circle = Circle([("a", 10)])
        self.refuses_all_but(NoPlace, is_place, circle.keeper)
        self.refuses_all_but(NoPlace, is_place, lambda thing: circle.keepers(thing, "no"))
        is_right = lambda thing: type(thing) is int and 1 <= thing <= 4
        self.refuses_all_but(NoNumber, is_right, lambda thing: circle.keepers(0, thing))
        for many in (0, 5):
            self.refused_with(NoNumber, {"found": many}, circle.keepers, 0, many)
        self.refuses_all_but(NoPlace, is_place, Circle([]).keeper)


class Stretches(unittest.TestCase):
    def test_by_hand(self):
        circle = Circle([("c", 250), ("a", 10), ("b", 100)])
        self.assertEqual([circle.stretch(name) for name in "abc"], [(251, 16), (11, 90), (101, 150)])

    def test_who_is_alone_keeps_all(self):
        self.assertEqual(Circle([("a", 3)]).stretch("a"), (4, 256))
        self.assertEqual(Circle([("a", 255)]).stretch("a"), (0, 256))

    def test_those_at_one_place(self):
        circle = Circle([("b", 255), ("a", 255), ("c", 255)])
        self.assertEqual([circle.stretch(name) for name in "abc"], [(0, 256), (0, 0), (0, 0)])
        circle = Circle([("b", 20), ("c", 20), ("a", 10)])
        self.assertEqual([circle.stretch(name) for name in "abc"], [(21, 246), (11, 10), (21, 0)])

    def test_just_the_places_that_it_keeps(self):
        for peers in worlds():
            circle = Circle(peers)
            for name, own in peers:
                first, many = circle.stretch(name)
                told = [(first + k) % 256 for k in range(many)]
                self.assertEqual(sorted(told), [at for at in range(256) if circle.keeper(at) == name])
                self.assertEqual((first + many - 1) % 256, own)


class Fingers(unittest.TestCase):
    def test_by_hand(self):
        circle = Circle([("a", 0), ("b", 3), ("c", 64), ("d", 200)])
        self.assertEqual(circle.fingers("a"), ["b", "b", "c", "c", "c", "c", "c", "d"])
        self.assertEqual(circle.fingers("d"), ["a", "a", "a", "a", "a", "a", "c", "d"])
        self.assertEqual(Circle([("a", 9)]).fingers("a"), ["a"] * 8)

    def test_a_finger_is_the_keeper_of_just_its_place(self):
        for own in (0, 5, 200):
            for at in range(8):
                way = 2 ** at
                circle = Circle([("a", own), ("b", (own + way) % 256)])
                self.assertEqual(circle.fingers("a"), ["b"] * (at + 1) + ["a"] * (7 - at))
                if way > 1:
                    circle = Circle([("a", own), ("b", (own + way - 1) % 256)])
                    self.assertEqual(circle.fingers("a"), ["b"] * at + ["a"] * (8 - at))

    def test_keepers_of_eight_places(self):
        for peers in worlds():
            circle = Circle(peers)
            for name, own in peers:
                ways = [2 ** k for k in range(8)]
                found = [walked_keepers(peers, (own + way) % 256, 1)[0] for way in ways]
                self.assertEqual(circle.fingers(name), found)


if __name__ == "__main__":
    unittest.main()
