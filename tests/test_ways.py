"""Points 9 and 24 to 26: steps, whole ways, and ways that are shown."""

import inspect
import itertools
import unittest

from peersmeet.circles import Circle
from peersmeet.errors import NoCircle, NoList, NoPlace, NotThere, NoTruth
from peersmeet.marks import is_place, way_on
from peersmeet.ways import shows_way, step_of, way_of
from tests.refusals import RefusalCase, any_things
from tests.test_circles import walked_keepers, worlds


def is_list(thing):
    return isinstance(thing, (list, tuple))


def walked_step(peers, name, place, without, arrived):
    """A step as the document's words make it, from the peers alone."""
    peers = [peer for peer in peers if peer[0] == name or peer[0] not in without]
    places = dict(peers)
    own = places[name]
    keeper = walked_keepers(peers, place, 1)[0]
    if keeper == name:
        return ("mine", name, own)
    if arrived:
        return ("back", keeper, places[keeper])
    fingers = [walked_keepers(peers, (own + 2 ** k) % 256, 1)[0] for k in range(8)]
    between = [one for one in fingers if 0 < (places[one] - own) % 256 < (place - own) % 256]
    told = max(between, key=lambda one: (places[one] - own) % 256) if between else keeper
    return ("on", told, places[told])


class Steps(RefusalCase):
    def setUp(self):
        self.circle = Circle([("a", 0), ("b", 3), ("c", 64), ("d", 200)])

    def test_names_and_defaults(self):
        told = {
            step_of: "(circle, name, place, *, without=(), arrived=False)",
            way_of: "(circle, name, place)", shows_way: "(circle, name, place, thing)",
        }
        for function, form in told.items():
            self.assertEqual(str(inspect.signature(function)), form)
            self.assertEqual(function.__module__, "peersmeet.ways")

    def test_mine(self):
        self.assertEqual(step_of(self.circle, "c", 64), ("mine", "c", 64))
        self.assertEqual(step_of(self.circle, "a", 201), ("mine", "a", 0))
        self.assertEqual(step_of(self.circle, "a", 201, arrived=True), ("mine", "a", 0))

    def test_on_by_a_finger_or_to_the_keeper(self):
        self.assertEqual(step_of(self.circle, "a", 150), ("on", "c", 64))
        self.assertEqual(step_of(self.circle, "c", 150), ("on", "d", 200))
        self.assertEqual(step_of(self.circle, "a", 2), ("on", "b", 3))
        # A finger at the very place doesn't stand between; it is the keeper.
        self.assertEqual(step_of(self.circle, "a", 64), ("on", "b", 3))

    def test_back_where_the_way_arrived(self):
        self.assertEqual(step_of(self.circle, "a", 150, arrived=True), ("back", "d", 200))
        self.assertEqual(step_of(self.circle, "d", 150, arrived=False), ("mine", "d", 200))
        self.assertEqual(step_of(self.circle, "a", 150, without=["d"], arrived=True), ("mine", "a", 0))

    def test_names_left_out(self):
        self.assertEqual(step_of(self.circle, "a", 150, without=["c"]), ("on", "b", 3))
        self.assertEqual(step_of(self.circle, "a", 64, without=("b", "c")), ("on", "d", 200))
        self.assertEqual(step_of(self.circle, "a", 64, without=list("bcd")), ("mine", "a", 0))

    def test_the_asked_one_stays(self):
        for left_out in (["c"], list("abcd"), ("c", "c", None)):
            self.assertEqual(step_of(self.circle, "c", 50, without=left_out), ("mine", "c", 64))
        self.assertEqual(step_of(self.circle, "c", 150, without=["c", "d"]), ("on", "a", 0))

    def test_any_things_may_be_left_out(self):
        self.assertEqual(step_of(self.circle, "b", 150, without=any_things()), ("on", "c", 64))
        self.assertEqual(step_of(self.circle, "b", 150, without=any_things(), arrived=True), ("back", "d", 200))

    def test_those_at_one_place(self):
        circle = Circle([("b", 7), ("a", 7), ("c", 90)])
        self.assertEqual(step_of(circle, "b", 7), ("on", "a", 7))
        self.assertEqual(step_of(circle, "a", 7), ("mine", "a", 7))
        self.assertEqual(step_of(circle, "b", 91), ("on", "c", 90))

    def test_as_the_words_make_it(self):
        for peers in worlds()[1:]:
            circle = Circle(peers)
            names = circle.names()
            for name, place in itertools.product(names, range(0, 256, 11)):
                for without, arrived in itertools.product(([], names[:2], names[1:4]), (False, True)):
                    told = step_of(circle, name, place, without=without, arrived=arrived)
                    self.assertEqual(told, walked_step(peers, name, place, without, arrived))
                    self.assertIs(type(told), tuple)

    def test_what_is_handed_in_stays(self):
        without = ["c", "a", None]
        step_of(self.circle, "a", 150, without=without)
        self.assertEqual(without, ["c", "a", None])
        self.assertEqual(self.circle.names(), list("abcd"))

    def test_refused_in_the_order_of_the_interface(self):
        circle = self.circle
        is_circle = lambda thing: isinstance(thing, Circle)
        self.refuses_all_but(NoCircle, is_circle, lambda thing: step_of(thing, 5, 500, without=5, arrived=5))
        is_a = lambda thing: thing == "a"
        self.refuses_all_but(NotThere, is_a, lambda thing: step_of(circle, thing, 500, without=5, arrived=5))
        self.refuses_all_but(NoPlace, is_place, lambda thing: step_of(circle, "a", thing, without=5, arrived=5))
        self.refuses_all_but(NoList, is_list, lambda thing: step_of(circle, "a", 5, without=thing, arrived=5))
        is_truth = lambda thing: isinstance(thing, bool)
        self.refuses_all_but(NoTruth, is_truth, lambda thing: step_of(circle, "a", 5, arrived=thing))
        self.refused_with(NotThere, {"found": "x"}, step_of, circle, "x", 5)
        self.refused_with(NotThere, {"found": "a"}, step_of, Circle([]), "a", 5)


class Ways(RefusalCase):
    def test_by_hand(self):
        circle = Circle([("a", 0), ("b", 3), ("c", 64), ("d", 200)])
        self.assertEqual(way_of(circle, "a", 150), ["a", "c", "d"])
        self.assertEqual(way_of(circle, "d", 150), ["d"])
        self.assertEqual(way_of(circle, "d", 64), ["d", "a", "b", "c"])
        self.assertEqual(way_of(Circle([("b", 7), ("a", 7)]), "b", 7), ["b", "a"])

    def test_each_step_comes_nearer_until_the_keeper(self):
        for peers in worlds()[1:]:
            circle = Circle(peers)
            for name, place in itertools.product(circle.names(), range(0, 256, 7)):
                way = way_of(circle, name, place)
                self.assertEqual((way[0], way[-1]), (name, circle.keeper(place)))
                self.assertEqual(len(set(way)), len(way))
                left = [way_on(circle.place(one), place) for one in way[:-1]]
                self.assertEqual(left, sorted(set(left), reverse=True))
                self.assertIs(shows_way(circle, name, place, way), True)
                for one, other in zip(way, way[1:]):
                    self.assertEqual(step_of(circle, one, place)[1], other)

    def test_what_is_told_is_the_askers_own(self):
        circle = Circle([("a", 0), ("b", 3)])
        way_of(circle, "a", 2).append("x")
        self.assertEqual(way_of(circle, "a", 2), ["a", "b"])

    def test_refused(self):
        circle = Circle([("a", 10)])
        is_circle = lambda thing: isinstance(thing, Circle)
        self.refuses_all_but(NoCircle, is_circle, lambda thing: way_of(thing, 5, 500))
        self.refuses_all_but(NotThere, lambda thing: thing == "a", lambda thing: way_of(circle, thing, 500))
        self.refuses_all_but(NoPlace, is_place, lambda thing: way_of(circle, "a", thing))


class Shown(RefusalCase):
    def setUp(self):
        self.circle = Circle([("a", 0), ("b", 3), ("c", 64), ("d", 200), ("e", 200)])

    def shows(self, names, place=150, name="a"):
        told = shows_way(self.circle, name, place, names)
        self.assertIs(type(told), bool)
        return told

    def test_ways(self):
        for names in (["a", "d"], ["a", "b", "d"], ["a", "c", "d"], ["a", "b", "c", "d"], ("a", "c", "d")):
            self.assertTrue(self.shows(names))

    def test_a_way_that_begins_at_its_keeper(self):
        self.assertTrue(self.shows(["d"], name="d"))
        for names in (["d", "d"], ["d", "a", "d"], ["d", "a"], ["d", "c", "a"], [], ["a"]):
            self.assertFalse(self.shows(names, name="d"))

    def test_no_ways(self):
        wrong = (
            [], ["a"], ["d"], ["b", "d"], ["a", "c"], ["a", "c", "b", "d"], ["a", "b", "b", "d"], ["a", "a", "d"],
            ["a", "d", "d"], ["a", "e"], ["a", "e", "d"], ["a", "x", "d"], ["a", None, "d"], ["a", "c", "d", "a"],
            ["a", ["c"], "d"], "ad", {"a": 1, "d": 2}, ["a", "d", "b", "d"],
        )
        for names in wrong:
            self.assertFalse(self.shows(names))

    def test_who_stands_at_the_place_does_not_stand_between(self):
        self.assertFalse(self.shows(["a", "d", "e"], place=200))
        self.assertTrue(self.shows(["e", "d"], place=200, name="e"))
        self.assertFalse(self.shows(["e", "c", "d"], place=200, name="e"))

    def test_any_thing(self):
        for thing in any_things():
            self.assertIs(shows_way(self.circle, "b", 150, thing), False)
            self.assertIs(shows_way(self.circle, "a", 0, thing), thing in (["a"], ("a",)))

    def test_refused(self):
        circle = Circle([("a", 10)])
        is_circle = lambda thing: isinstance(thing, Circle)
        self.refuses_all_but(NoCircle, is_circle, lambda thing: shows_way(thing, 5, 500, None))
        self.refuses_all_but(NotThere, lambda thing: thing == "a", lambda thing: shows_way(circle, thing, 500, None))
        self.refuses_all_but(NoPlace, is_place, lambda thing: shows_way(circle, "a", thing, None))


if __name__ == "__main__":
    unittest.main()
