"""Points 101 to 104: shares and loads, factors, fair places, and what is handed on."""

import inspect
import itertools
import random
import unittest

from peersmeet import shares
from peersmeet.circles import Circle
from peersmeet.errors import NoCircle, NoNumber, NotThere
from peersmeet.looks import put
from peersmeet.marks import piece_place
from peersmeet.nets import Net
from peersmeet.shares import fair_place, handed, keeps_within, load, loads, share
from peersmeet.things import card_places
from tests.histories import KEYS, NAMES, TEXTS, circle_of
from tests.refusals import RefusalCase

EMPTY = Circle([])
ALONE = Circle([("ada", 7)])
# In their order: ben 10, dan 10, cy 100, ada 200.
FOUR = Circle([("ada", 200), ("ben", 10), ("cy", 100), ("dan", 10)])


def is_circle(thing):
    return isinstance(thing, Circle)


def circles(many):
    """Circles of all sizes, with several peers at some places."""
    for seed in range(many):
        chance = random.Random(seed)
        names = chance.sample(NAMES, chance.randint(0, 8))
        yield chance, Circle([(name, chance.choice([0, 255, 77, chance.randrange(256)])) for name in names])


def keepers_at(circle, place, copies):
    """The keepers of a place, by a walk from place to place."""
    found = []
    for way in range(257):
        for name, own in circle.peers():
            if own == (place + way) % 256 and name not in found and len(found) < copies:
                found.append(name)
    return found


class Shares(RefusalCase):
    def test_names_and_arguments(self):
        forms = {share: "(circle, name)", load: "(circle, name, *, copies=1)", loads: "(circle, *, copies=1)",
                 keeps_within: "(circle, factor, *, copies=1)", fair_place: "(circle)",
                 handed: "(one, other, *, copies=1)"}
        for call, form in forms.items():
            self.assertEqual((str(inspect.signature(call)), call.__module__), (form, shares.__name__))

    def test_shares_and_loads(self):
        self.assertEqual([share(FOUR, name) for name in FOUR.names()], [66, 0, 90, 100])
        self.assertEqual(loads(FOUR), [("ben", 66), ("dan", 0), ("cy", 90), ("ada", 100)])
        self.assertEqual(loads(FOUR, copies=2), [("ben", 166), ("dan", 66), ("cy", 90), ("ada", 190)])
        self.assertEqual(loads(FOUR, copies=3), [("ben", 256), ("dan", 166), ("cy", 156), ("ada", 190)])
        self.assertEqual(loads(FOUR, copies=4), [(name, 256) for name in FOUR.names()])
        self.assertEqual([load(FOUR, "dan"), load(FOUR, "dan", copies=1), load(FOUR, "dan", copies=2)], [0, 0, 66])

    def test_fewer_peers_than_copies(self):
        for copies in (1, 2, 3, 4):
            self.assertEqual(loads(EMPTY, copies=copies), [])
            self.assertEqual((loads(ALONE, copies=copies), load(ALONE, "ada", copies=copies)), ([("ada", 256)], 256))
        self.assertEqual(share(ALONE, "ada"), 256)
        two = Circle([("ada", 0), ("ben", 0)])
        self.assertEqual([loads(two), loads(two, copies=2)], [[("ada", 256), ("ben", 0)], [("ada", 256), ("ben", 256)]])

    def test_they_are_what_a_walk_tells(self):
        for _, circle in circles(40):
            names = circle.names()
            self.assertEqual(sum(share(circle, name) for name in names), 256 if names else 0)
            for copies in (1, 2, 3, 4):
                kept = [keepers_at(circle, place, copies) for place in range(256)]
                told = [(name, len([one for one in kept if name in one])) for name in names]
                self.assertEqual(loads(circle, copies=copies), told)
                self.assertEqual([load(circle, name, copies=copies) for name in names], [many for _, many in told])
            self.assertEqual([share(circle, name) for name in names], [load(circle, name) for name in names])

    def test_refused_in_the_order_of_the_interface(self):
        for call in (lambda thing: share(thing, None), lambda thing: load(thing, None, copies=0),
                     lambda thing: loads(thing, copies=0)):
            self.refuses_all_but(NoCircle, is_circle, call)
        for call in (lambda thing: share(FOUR, thing), lambda thing: load(FOUR, thing, copies=0)):
            self.refuses_all_but(NotThere, FOUR.has, call)
        self.refused_with(NotThere, {"found": "zoe"}, load, FOUR, "zoe")
        for call in (lambda thing: load(FOUR, "ada", copies=thing), lambda thing: loads(EMPTY, copies=thing)):
            self.refuses_all_but(NoNumber, lambda thing: type(thing) is int and 1 <= thing <= 4, call)
            for thing in (0, 5, True):
                self.refused(NoNumber, thing, call, thing)

    def test_what_is_told_may_be_changed(self):
        loads(FOUR).clear()
        self.assertEqual(len(loads(FOUR)), 4)


class Factors(RefusalCase):
    def test_loads_within_a_factor(self):
        # The shares are 66, 90 and 100.
        three = FOUR.without(["dan"])
        self.assertIs(keeps_within(three, (100, 66)), True)
        self.assertIs(keeps_within(three, (50, 33)), True)
        self.assertIs(keeps_within(three, (99, 66)), False)
        self.assertIs(keeps_within(three, (3, 2)), False)
        self.assertIs(keeps_within(three, (999, 1)), True)
        self.assertIs(keeps_within(three, (1, 1)), False)
        self.assertIs(keeps_within(three, (1, 1), copies=3), True)
        # Who keeps nothing is less than any part of the others.
        self.assertIs(keeps_within(FOUR, (999, 1)), False)
        self.assertIs(keeps_within(FOUR, (999, 1), copies=2), True)
        self.assertIs(keeps_within(FOUR, (190, 66), copies=2), True)
        self.assertIs(keeps_within(FOUR, (189, 66), copies=2), False)

    def test_without_peers_and_alone(self):
        for copies in (1, 2, 3, 4):
            for circle in (EMPTY, ALONE):
                self.assertIs(keeps_within(circle, (1, 1), copies=copies), True)

    def test_refused_in_order(self):
        self.refuses_all_but(NoCircle, is_circle, lambda thing: keeps_within(thing, None, copies=None))
        for circle in (FOUR, EMPTY):
            self.refuses_all_but(NoNumber, lambda thing: False, lambda thing: keeps_within(circle, thing, copies=0))
            for thing in ((1, 2), (0, 0), (1, 0), (1000, 1), (1000, 1000), (2, True), (True, 1), [2, 1], (2,), (2, 1, 1), ("2", 1),
                          (-1, -2), (2, None)):
                self.refused(NoNumber, thing, keeps_within, circle, thing, copies=0)
            self.refuses_all_but(NoNumber, lambda thing: type(thing) is int and 1 <= thing <= 4,
                                 lambda thing: keeps_within(circle, (999, 999), copies=thing))


class FairPlaces(RefusalCase):
    def test_half_of_the_greatest_share(self):
        self.assertEqual(fair_place(EMPTY), 255)
        # Alone ada keeps from 8 on round to 7: the first half of it ends at 135.
        self.assertEqual(fair_place(ALONE), 135)
        # Of 101 to 200 the first half ends at 150.
        self.assertEqual(fair_place(FOUR), 150)

    def test_of_odd_shares_a_half_place_is_left_away(self):
        # The shares are 153 and 103: the first 76 of 148 on are the new one's.
        circle = Circle([("ada", 147), ("ben", 44)])
        self.assertEqual([share(circle, name) for name in ("ada", "ben")], [103, 153])
        self.assertEqual(fair_place(circle), (148 + 75) % 256)
        more = Circle(circle.peers() + [("cy", fair_place(circle))])
        self.assertEqual([share(more, name) for name in ("ada", "ben", "cy")], [103, 77, 76])

    def test_the_first_peer_among_several_greatest(self):
        circle = Circle([("zoe", 10), ("ada", 138)])
        self.assertEqual(fair_place(circle), (139 + 63) % 256)
        circle = Circle([("zoe", 63), ("ada", 127), ("ben", 191), ("cy", 255)])
        self.assertEqual(fair_place(circle), 31)
        # Of those at one place the least name keeps all.
        circle = Circle([("zoe", 63), ("ada", 63)])
        self.assertEqual(fair_place(circle), (64 + 127) % 256)

    def test_all_at_fair_places_keep_within_two(self):
        for start in [None] + list(range(0, 256, 7)):
            for names in (NAMES, NAMES[::-1]):
                circle = EMPTY
                for name in names:
                    place = fair_place(circle) if start is None or len(circle) > 0 else start
                    ahead = circle
                    circle = Circle(circle.peers() + [(name, place)])
                    for copies in (1, 2, 3, 4):
                        self.assertIs(keeps_within(circle, (2, 1), copies=copies), True)
                    if len(ahead) > 0:
                        greatest = max(share(ahead, one) for one in ahead.names())
                        self.assertEqual(share(circle, name), greatest // 2)

    def test_refused(self):
        self.refuses_all_but(NoCircle, is_circle, fair_place)


class Handed(RefusalCase):
    def test_one_peer_more(self):
        one = Circle([("ada", 10), ("ben", 100)])
        other = Circle([("ada", 10), ("ben", 100), ("cy", 50)])
        self.assertEqual(handed(one, other), [(11, 40, ("cy",), ("ben",))])
        self.assertEqual(handed(other, one), [(11, 40, ("ben",), ("cy",))])
        # With two copies cy is one of the keepers where it is the first or the second behind a place.
        self.assertEqual(handed(one, other, copies=2), [(11, 40, ("cy",), ("ada",)), (101, 166, ("cy",), ("ben",))])
        self.assertEqual(handed(one, other, copies=3), [(0, 256, ("cy",), ())])
        self.assertEqual(handed(one, one), [])

    def test_rows_that_go_round(self):
        one = Circle([("ada", 10), ("ben", 100)])
        self.assertEqual(handed(one, Circle([("ada", 10), ("ben", 101)])), [(101, 1, ("ben",), ("ada",))])
        self.assertEqual(handed(one, Circle([("ada", 10), ("ben", 100), ("cy", 5)])), [(101, 161, ("cy",), ("ada",))])
        self.assertEqual(handed(one, Circle([("ada", 10), ("ben", 100), ("cy", 255)])), [(101, 155, ("cy",), ("ada",))])
        self.assertEqual(handed(one, Circle([("ada", 10), ("ben", 100), ("cy", 0)])), [(101, 156, ("cy",), ("ada",))])
        # Two rows, of which the last one goes round.
        self.assertEqual(handed(one, Circle([("ben", 10), ("ada", 100)])), [
            (11, 90, ("ada",), ("ben",)), (101, 166, ("ben",), ("ada",))])

    def test_a_ring_that_is_alike_in_all_its_places(self):
        self.assertEqual(handed(EMPTY, EMPTY), [])
        self.assertEqual(handed(EMPTY, ALONE), [(0, 256, ("ada",), ())])
        self.assertEqual(handed(ALONE, EMPTY, copies=4), [(0, 256, (), ("ada",))])
        self.assertEqual(handed(ALONE, Circle([("ben", 200)])), [(0, 256, ("ben",), ("ada",))])
        self.assertEqual(handed(ALONE, Circle([("ada", 200)])), [])
        two = Circle([("zoe", 1), ("ben", 200)])
        self.assertEqual(handed(EMPTY, two, copies=2), [(0, 256, ("ben", "zoe"), ())])

    def test_they_are_what_a_walk_tells(self):
        for (chance, one), (_, other) in itertools.pairwise(circles(60)):
            copies = chance.randint(1, 4)
            rows = handed(one, other, copies=copies)
            self.assertEqual([row[0] for row in rows], sorted({row[0] for row in rows}))
            told = {}
            for first, many, gained, lost in rows:
                self.assertTrue(gained or lost)
                self.assertEqual((type(gained), type(lost)), (tuple, tuple))
                for way in range(many):
                    self.assertNotIn((first + way) % 256, told)
                    told[(first + way) % 256] = (gained, lost)
                # A row is as long as it may be.
                if many < 256:
                    self.assertNotEqual(told.get((first - 1) % 256), (gained, lost))
                else:
                    self.assertEqual(first, 0)
            for place in range(256):
                ahead, behind = keepers_at(one, place, copies), keepers_at(other, place, copies)
                change = (tuple(sorted(set(behind) - set(ahead))), tuple(sorted(set(ahead) - set(behind))))
                self.assertEqual(told.get(place, ((), ())), change)
            for row, behind in itertools.pairwise(rows):
                if row[0] + row[1] == behind[0]:
                    self.assertNotEqual(row[2:], behind[2:])

    def test_where_one_comes_just_this_one_gains_as_many_places_as_its_load(self):
        for chance, circle in circles(60):
            if len(circle) in (0, 8):
                continue
            more = Circle(circle.peers() + [("zoe", chance.randrange(256))])
            for copies in (1, 2, 3, 4):
                rows = handed(circle, more, copies=copies)
                self.assertEqual({row[2] for row in rows} - {("zoe",)}, set())
                if len(circle) >= copies:
                    self.assertEqual({len(row[3]) for row in rows} - {1}, set())
                self.assertEqual(sum(row[1] for row in rows), load(more, "zoe", copies=copies))

    def test_in_a_net_at_rest_just_such_things_move(self):
        many = 0
        for seed in range(40):
            chance = random.Random(seed)
            net = Net(chance.randint(1, 4))
            net.begin("ada", chance.randrange(256))
            for name in NAMES[1:6]:
                net.enter(name, "ada", chance.randrange(256))
            for key in KEYS:
                put(net, chance.choice(net.standing()), key, chance.choice(TEXTS))
            net.rest()
            ahead, circle = self.kept(net), circle_of(net, net.standing())
            if chance.random() < 0.5:
                net.enter("hal", "ada", chance.randrange(256))
            else:
                net.leave(chance.choice(NAMES[:6]))
            net.rest()
            behind = self.kept(net)
            gained, lost = {}, {}
            for first, many, names, others in handed(circle, circle_of(net, net.standing()), copies=net.copies()):
                for way in range(many):
                    gained[(first + way) % 256], lost[(first + way) % 256] = names, others
            moved = 0
            for name in net.standing():
                # What is new there, or no more, lies at a place that was handed on; a card at one of its places.
                for things, some in ((behind[name] - ahead.get(name, set()), gained), (ahead.get(name, set()) - behind[name], lost)):
                    for places in things:
                        moved += 1
                        self.assertTrue([place for place in places[1] if name in some.get(place, ())], (name, places))
            many += moved > 0
        self.assertGreater(many, 20)

    def kept(self, net):
        """Of each that stands what it has: each piece with its place, each card with all its places."""
        told = {}
        for name in net.standing():
            peer = net.peer(name)
            told[name] = {((key, at), (piece_place(key, at),)) for key in peer.cards() for at in peer.pieces(key)}
            told[name] |= {(card, tuple(card_places(card))) for card in peer.cards().values()}
        return told

    def test_refused_in_the_order_of_the_interface(self):
        self.refuses_all_but(NoCircle, is_circle, lambda thing: handed(thing, None, copies=0))
        self.refuses_all_but(NoCircle, is_circle, lambda thing: handed(FOUR, thing, copies=0))
        self.refuses_all_but(NoNumber, lambda thing: type(thing) is int and 1 <= thing <= 4,
                             lambda thing: handed(EMPTY, FOUR, copies=thing))

    def test_what_is_told_may_be_changed(self):
        handed(EMPTY, FOUR).clear()
        self.assertEqual(len(handed(EMPTY, FOUR)), 3)


if __name__ == "__main__":
    unittest.main()
