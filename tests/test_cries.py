"""Points 91 to 93, 95 and 96: words that are said, whom they are handed on to, and Cries."""

import inspect
import itertools
import random
import unittest

from peersmeet import cries
from peersmeet.circles import Circle
from peersmeet.cries import Cries, handed_on, tree_of
from peersmeet.errors import Down, NoCircle, NoNumber, NoPeer, NoPlace, NoText, NotOnRoad, NotThere
from peersmeet.marks import is_text, way_on
from peersmeet.nets import Net
from peersmeet.peers import is_said
from tests.histories import NAMES, Deeds
from tests.refusals import RefusalCase, any_things
from tests.test_nets import PLACES, give

ALL = tuple(PLACES)
# Round: eve 10, fay 20, ada 50, dan 100, ben 150, gil 200, cy 240, hal 255.
CIRCLE = Circle(list(PLACES.items()))


def end(name):
    return (name, PLACES[name])


def cries_of(*names, copies=2):
    """Cries in which the names came one behind the other, introduced by the first."""
    net = Cries(copies)
    for at, name in enumerate(names):
        if at == 0:
            net.begin(name, PLACES[name])
        else:
            net.enter(name, names[0], PLACES[name])
    return net


def circles(many):
    """Circles of all sizes, with several peers at some places."""
    for seed in range(many):
        chance = random.Random(seed)
        places = [chance.randrange(256) for _ in range(8)]
        names = chance.sample(NAMES, chance.randint(1, 8))
        yield Circle([(name, chance.choice(places) if chance.random() < 0.5 else chance.randrange(256)) for name in names])


class Hands(RefusalCase):
    def test_names_and_arguments(self):
        for call, form in ((handed_on, "(circle, name, end)"), (tree_of, "(circle, name)")):
            self.assertEqual((str(inspect.signature(call)), call.__module__), (form, cries.__name__))

    def test_to_the_one_behind_and_the_fingers(self):
        # The fingers of ada, at 50, are dan and ben, gil by the place 178.
        self.assertEqual(handed_on(CIRCLE, "ada", end("ada")), [
            ("dan", end("ben")), ("ben", end("gil")), ("gil", end("ada"))])
        # Those of gil, at 200, are cy, by all places to 232, and eve, by 8, but not hal.
        self.assertEqual(handed_on(CIRCLE, "gil", end("ada")), [("cy", end("eve")), ("eve", end("ada"))])
        self.assertEqual(handed_on(CIRCLE, "cy", end("eve")), [("hal", end("eve"))])
        self.assertEqual(handed_on(CIRCLE, "eve", end("ada")), [("fay", end("ada"))])
        self.assertEqual(handed_on(CIRCLE, "fay", end("ada")), [])

    def test_the_one_behind_is_no_finger(self):
        circle = Circle([("ada", 10), ("ben", 10), ("cy", 10), ("dan", 200)])
        # Fingers are keepers, and of those at one place the first alone is one.
        self.assertEqual(circle.fingers("ada"), ["dan"] * 7 + ["dan"])
        self.assertEqual(handed_on(circle, "ada", ("ada", 10)), [("ben", ("dan", 200)), ("dan", ("ada", 10))])
        self.assertEqual(handed_on(circle, "ben", ("dan", 200)), [("cy", ("dan", 200))])
        self.assertEqual(handed_on(circle, "dan", ("ada", 10)), [])
        self.assertEqual(handed_on(circle, "dan", ("ben", 10)), [("ada", ("ben", 10))])

    def test_ends_ahead_of_and_behind_peers_of_one_place(self):
        circle = Circle([("ben", 10), ("dan", 10), ("fay", 10), ("zoe", 100)])
        ends = {("a", 10): [], ("ben", 10): [], ("c", 10): ["ben"], ("dan", 10): ["ben"], ("e", 10): ["ben"],
                ("fay", 10): ["ben"], ("g", 10): ["ben"], ("a", 11): ["ben"], ("zoe", 100): ["ben"],
                ("zz", 100): [], ("a", 255): [], ("a", 0): []}
        for thing, goals in ends.items():
            self.assertEqual([goal for goal, _ in handed_on(circle, "zoe", thing)], goals, thing)
        # From ben on they are served one behind the other.
        ends = {("a", 10): ["dan", "zoe"], ("ben", 10): ["dan", "zoe"], ("c", 10): [], ("dan", 10): [], ("e", 10): ["dan"],
                ("fay", 10): ["dan"], ("g", 10): ["dan"], ("a", 100): ["dan"], ("zoe", 100): ["dan"],
                ("zoe", 101): ["dan", "zoe"], ("ab", 0): ["dan", "zoe"]}
        for thing, goals in ends.items():
            told = handed_on(circle, "ben", thing)
            self.assertEqual([goal for goal, _ in told], goals, thing)
            self.assertEqual([own for _, own in told[:-1]], [(goal, circle.place(goal)) for goal in goals[1:]])
            self.assertEqual([own for _, own in told[-1:]], [thing] if told else [])

    def test_an_end_that_is_none_of_the_circle(self):
        self.assertEqual(handed_on(CIRCLE, "ada", ("zoe", 150)), [("dan", end("ben")), ("ben", ("zoe", 150))])
        self.assertEqual(handed_on(CIRCLE, "ada", ("a", 150)), [("dan", ("a", 150))])
        self.assertEqual(handed_on(CIRCLE, "ada", ("ada", 99)), [])
        self.assertEqual(handed_on(CIRCLE, "ada", ("ada", 21)), handed_on(CIRCLE, "ada", ("ada", 21)))
        self.assertEqual([goal for goal, _ in handed_on(CIRCLE, "ada", ("zoe", 30))], ["dan", "ben", "gil"])

    def test_a_circle_of_one(self):
        alone = Circle([("ada", 50)])
        for thing in (("ada", 50), ("ben", 50), ("ben", 0), ("ada", 255)):
            self.assertEqual(handed_on(alone, "ada", thing), [])
        self.assertEqual(tree_of(alone, "ada"), [])

    def test_refused_in_the_order_of_the_interface(self):
        for call in (lambda thing: handed_on(thing, None, None), lambda thing: tree_of(thing, None)):
            self.refuses_all_but(NoCircle, lambda thing: isinstance(thing, Circle), call)
        for call in (lambda thing: handed_on(CIRCLE, thing, None), lambda thing: tree_of(CIRCLE, thing)):
            self.refuses_all_but(NotThere, CIRCLE.has, call)
        self.refuses_all_but(NoPlace, lambda thing: thing == ("a", 0), lambda thing: handed_on(CIRCLE, "ada", thing))
        for thing in (("A", 0), ("ada", 256), ("ada", True), ("ada", -1), ("ada", 0, 0), ["ada", 0], ("ada",), (0, "ada")):
            self.refused(NoPlace, thing, handed_on, CIRCLE, "ada", thing)

    def test_what_is_told_may_be_changed(self):
        for call in (lambda: handed_on(CIRCLE, "ada", end("ada")), lambda: tree_of(CIRCLE, "ada")):
            again = call()
            call().clear()
            self.assertEqual(call(), again)
            self.assertIs(type(call()), list)


class Trees(unittest.TestCase):
    def test_hands_in_the_order_in_which_they_come(self):
        self.assertEqual(tree_of(CIRCLE, "ada"), [
            ("ada", "dan", end("ben"), 1), ("ada", "ben", end("gil"), 1), ("ada", "gil", end("ada"), 1),
            ("gil", "cy", end("eve"), 2), ("gil", "eve", end("ada"), 2), ("cy", "hal", end("eve"), 3),
            ("eve", "fay", end("ada"), 3)])

    def test_each_name_but_the_first_just_once(self):
        for circle in circles(200):
            for name in circle.names():
                rows = tree_of(circle, name)
                self.assertEqual(sorted(row[1] for row in rows), sorted(circle.without([name]).names()))
                deep = {name: 0}
                for giver, goal, _, many in rows:
                    # Who was handed it hands it on behind that, and one deeper.
                    self.assertEqual(many, deep[giver] + 1)
                    deep[goal] = many
                givers = [name] + [row[1] for row in rows]
                order = [givers.index(row[0]) for row in rows]
                self.assertEqual(order, sorted(order))

    def test_hands_are_just_those_of_each_by_its_end(self):
        for circle in circles(60):
            for name in circle.names():
                ends = {name: (name, circle.place(name))}
                ends.update({goal: own for _, goal, own, _ in tree_of(circle, name)})
                for giver in circle.names():
                    self.assertEqual([row[1:3] for row in tree_of(circle, name) if row[0] == giver],
                                     handed_on(circle, giver, ends[giver]))

    def test_the_way_to_the_last_is_less_than_half_of_the_givers(self):
        for circle in circles(300):
            places = [place for _, place in circle.peers()]
            if len(places) > len(set(places)):
                continue
            for name in circle.names():
                rows = tree_of(circle, name)

                def farthest(one):
                    below = [goal for giver, goal, _, _ in rows if giver == one]
                    ways = [way_on(circle.place(one), circle.place(last)) for last in last_of(below)]
                    return max(ways, default=0)

                def last_of(names):
                    found = list(names)
                    for one in found:
                        found.extend(goal for giver, goal, _, _ in rows if giver == one)
                    return found
                for giver, goal, _, _ in rows:
                    self.assertLess(2 * farthest(goal), farthest(giver))


class CryCase(RefusalCase):
    def setUp(self):
        self.net = cries_of("ada", "ben", "cy", "dan")

    def letters(self):
        return [letter for _, letter in self.net.under_way()]

    def stays(self, call, *things):
        """A refused call changes nothing, deeds, numbers and logs neither."""
        ahead = self.net.copied()
        self.refusal(call, *things)
        self.assertEqual((self.net, self.net.deeds(), self.net.under_way()), (ahead, ahead.deeds(), ahead.under_way()))
        for name in ahead.names():
            self.assertEqual(self.net.peer(name).log(), ahead.peer(name).log())


class Says(CryCase):
    def test_names_and_methods_of_its_own(self):
        told = {"__init__": "(self, copies=2)", "say": "(self, name, text)", "flow": "(self)", "under_way": "(self)",
                "heard": "(self, name)", "__eq__": "(self, other)", "marks": "(self)"}
        told.update({name: "(self, number)" for name in ("come", "lose", "double")})
        for name, form in told.items():
            self.assertEqual(str(inspect.signature(vars(Cries)[name])), form)
        self.assertEqual((Cries.__module__, Cries.__bases__), (cries.__name__, (Net,)))

    def test_at_first_without_letters(self):
        net = Cries()
        self.assertEqual((net.copies(), net.names(), net.under_way(), net.deeds()), (2, [], [], []))
        self.assertEqual([Cries(copies).copies() for copies in (1, 2, 3, 4)] + [Cries(copies=3).copies()], [1, 2, 3, 4, 3])
        self.refuses_all_but(NoNumber, lambda thing: type(thing) is int and 1 <= thing <= 4, Cries)
        self.assertIsInstance(repr(net), str)
        self.assertEqual(self.net.under_way(), [])

    def test_a_word_is_heard_by_who_says_it_and_handed_on(self):
        # Round: ada 50, dan 100, ben 150, cy 240.
        word = self.net.say("ada", "hello there")
        self.assertEqual(word, ("ada", 1, 1, "hello there"))
        self.assertIs(is_said(word), True)
        self.assertEqual([self.net.heard(name) for name in self.net.names()], [[word], [], [], []])
        self.assertEqual(self.net.under_way(), [
            (1, ("ada", "dan", word, end("ben"))), (2, ("ada", "ben", word, end("cy"))),
            (3, ("ada", "cy", word, end("ada")))])
        self.assertEqual(self.net.deeds()[4:], [("say", "ada", "hello there")])
        self.assertEqual(self.net.peer("ada").log()[-1], ("word", word))

    def test_by_its_own_circle(self):
        self.net.peer_here("ada").silent("ben")
        self.net.stop("dan")
        word = self.net.say("ada", "")
        # That dan is down it doesn't know.
        self.assertEqual(self.letters(), [("ada", "dan", word, end("cy")), ("ada", "cy", word, end("ada"))])
        alone = cries_of("ada")
        alone.say("ada", "me")
        self.assertEqual(alone.under_way(), [])

    def test_words_of_one_have_unlike_numbers(self):
        net = self.net
        self.assertEqual([net.say("ada", "x")[:3] for _ in range(3)], [("ada", 1, at) for at in (1, 2, 3)])
        net.flow()
        self.assertEqual(net.say("ben", "x")[:3], ("ben", 1, 1))
        self.assertEqual(net.say("ada", "x")[:3], ("ada", 1, 4))
        net.stop("ada")
        net.back("ada")
        # Behind its coming back its number is another one.
        self.assertEqual([net.say("ada", "x")[:3] for _ in range(2)], [("ada", 2, at) for at in (1, 2)])
        net.flow()
        net.stop("ada", keep=False)
        self.assertEqual(net.heard("ada"), [])
        net.back("ada")
        self.assertEqual(net.peer("ada").number(), 3)
        self.assertEqual(net.say("ada", "x")[:3], ("ada", 3, 1))

    def test_words_that_others_hear_of_it_count_not(self):
        self.net.peer_here("ada").hears_word(("ben", 1, 1, "x"))
        self.net.peer_here("ada").hears_word(("ada", 7, 1, "x"))
        self.assertEqual(self.net.say("ada", "y"), ("ada", 1, 1, "y"))
        self.net.peer_here("ada").hears_word(("ada", 1, 9, "x"))
        self.assertEqual(self.net.say("ada", "z"), ("ada", 1, 3, "z"))

    def test_no_two_words_of_any_history_have_the_same_first_three(self):
        for seed in range(80):
            history = Deeds(seed + 300)
            history.deeds(80)
            first = [word[:3] for word in history.said]
            self.assertEqual(len(first), len(set(first)))

    def test_refused_with_down_last(self):
        net = self.net
        self.refuses_all_but(NoPeer, net.has, lambda thing: net.say(thing, None))
        net.stop("ben")
        self.refuses_all_but(NoText, is_text, lambda thing: net.say("ben", thing))
        for text in ("a\n", "x" * 61, "100%"):
            self.refused(NoText, text, net.say, "ben", text)
        self.refused_with(Down, {"found": "ben"}, net.say, "ben", "")
        for things in (("zoe", "x"), ("ada", 5), ("ben", "x")):
            self.stays(net.say, *things)
        net.lie("ada", "silence")
        self.assertEqual(net.say("ada", "all the same"), ("ada", 1, 1, "all the same"))


class Letters(CryCase):
    def setUp(self):
        CryCase.setUp(self)
        self.word = self.net.say("ada", "hi")

    def test_one_that_comes_is_heard_and_handed_on(self):
        net = cries_of(*ALL)
        word = net.say("ada", "hi")
        self.assertEqual([letter[1] for _, letter in net.under_way()], ["dan", "ben", "gil"])
        self.assertIs(net.come(3), True)
        self.assertEqual(net.heard("gil"), [word])
        self.assertEqual(net.under_way()[2:], [
            (4, ("gil", "cy", word, end("eve"))), (5, ("gil", "eve", word, end("ada")))])
        self.assertEqual(net.deeds()[-1], ("come", 3))
        self.assertIs(net.come(number=1), True)
        self.assertEqual([number for number, _ in net.under_way()], [2, 4, 5])
        self.assertIs(type(net.come(2)), bool)

    def test_by_the_circle_of_the_goal_and_the_end_of_the_letter(self):
        net = cries_of(*ALL)
        net.peer_here("gil").silent("hal")
        net.peer_here("gil").silent("ada")
        word = net.say("ada", "hi")
        net.come(3)
        # The end is still ada, which gil doesn't know as here: so dan, behind it, is none that it serves.
        self.assertEqual([letter[1:] for _, letter in net.under_way()[2:]], [
            ("cy", word, end("eve")), ("eve", word, end("ada"))])

    def test_letters_that_nobody_hears(self):
        def silent(net):
            net.lie("cy", "silence")

        def heard(net):
            net.double(3)
            net.come(3)

        deeds = [lambda net: net.stop("cy"), lambda net: net.leave("cy"), lambda net: net.cut([["cy"], ["ada", "ben", "dan"]]),
                 silent, lambda net: net.stop("ada"), lambda net: net.lie("ada", "silence"), heard]
        for deed in deeds:
            self.setUp()
            net = self.net
            deed(net)
            number = 4 if deed is heard else 3
            words = {name: net.heard(name) for name in net.names()}
            many = len(net.under_way())
            self.assertIs(net.come(number), False)
            self.assertEqual(len(net.under_way()), many - 1)
            self.assertEqual({name: net.heard(name) for name in net.names()}, words)
            self.assertEqual(net.deeds()[-1], ("come", number))

    def test_one_that_forgot_hears_it_again(self):
        net = self.net
        net.double(3)
        self.assertIs(net.come(3), True)
        net.stop("cy", keep=False)
        net.peer_here("ada").hears("cy", 240, 1, "here")
        net.cut([["cy"], ["ada", "ben", "dan"]])
        net.back("cy")
        net.heal()
        self.assertEqual(net.heard("cy"), [])
        self.assertIs(net.come(4), True)
        self.assertEqual(net.heard("cy"), [self.word])

    def test_one_that_came_back_is_served_by_turns(self):
        net = self.net
        net.stop("cy")
        self.assertIs(net.come(3), False)
        net.back("cy")
        self.assertEqual(net.heard("cy"), [self.word])

    def test_lost(self):
        self.assertIs(self.net.lose(2), None)
        self.assertEqual([number for number, _ in self.net.under_way()], [1, 3])
        self.assertEqual(self.net.deeds()[-1], ("lose", 2))
        self.assertEqual(self.net.heard("ben"), [])

    def test_doubled(self):
        self.assertEqual([self.net.double(2), self.net.double(number=4), self.net.double(1)], [4, 5, 6])
        letters = dict(self.net.under_way())
        self.assertEqual((letters[4], letters[5], letters[6]), (letters[2], letters[2], letters[1]))
        self.assertEqual(self.net.deeds()[-3:], [("double", 2), ("double", 4), ("double", 1)])
        self.assertEqual([self.net.come(number) for number in (5, 2, 4)], [True, False, False])
        self.assertEqual(self.net.heard("ben"), [self.word])

    def test_flow_until_no_letter_is_left(self):
        net = cries_of(*ALL)
        word = net.say("ada", "hi")
        copy = net.copied()
        self.assertEqual(net.flow(), 7)
        self.assertEqual((net.under_way(), net.deeds()[-1]), ([], ("flow",)))
        self.assertEqual([net.heard(name) for name in ALL], [[word]] * 8)
        # Letters come in the order of their numbers.
        while copy.under_way():
            copy.come(copy.under_way()[0][0])
        self.assertEqual(copy, net)
        self.assertEqual(net.flow(), 0)
        self.assertEqual(Cries().flow(), 0)
        self.assertEqual(net.deeds()[-2:], [("flow",), ("flow",)])
        net.say("ben", "x")
        # Numbers go on rising.
        self.assertEqual(net.under_way()[0][0], 8)

    def test_flow_with_letters_doubled_and_lost(self):
        self.net.double(1)
        self.net.lose(2)
        self.assertEqual(self.net.flow(), 3)
        self.assertEqual([name for name in self.net.names() if self.net.heard(name)], ["ada", "cy", "dan"])

    def test_not_on_road(self):
        net = self.net
        for call in (net.come, net.lose, net.double):
            self.refuses_all_but(NotOnRoad, lambda thing: type(thing) is int and thing == 1, call)
            for thing in (True, 0, 4, "1", [1]):
                self.refused(NotOnRoad, thing, call, thing)
                self.stays(call, thing)
        net.come(1)
        self.refused_with(NotOnRoad, {"found": 1}, net.come, 1)

    def test_heard(self):
        net = self.net
        self.assertEqual(net.heard("ada"), [self.word])
        other = net.say("ada", "and more")
        self.assertEqual(net.heard(name="ada"), [self.word, other])
        net.stop("ada")
        self.assertEqual(net.heard("ada"), [self.word, other])
        self.refuses_all_but(NoPeer, net.has, net.heard)
        self.refused_with(NoPeer, {"found": "zoe"}, net.heard, "zoe")

    def test_what_is_told_is_the_askers_own(self):
        for told in (self.net.under_way(), self.net.heard("ada"), self.net.deeds()):
            told.clear()
        self.assertEqual((len(self.net.under_way()), self.net.heard("ada"), len(self.net.deeds())), (3, [self.word], 5))


class EqualCries(CryCase):
    def unlike(self):
        """Cries, and a net, of which no two are equal."""
        deeds = [
            lambda net: None, lambda net: net.say("ada", "x"), lambda net: net.say("ada", "y"), lambda net: net.say("ben", "x"),
            lambda net: (net.say("ada", "x"), net.double(1)), lambda net: (net.say("ada", "x"), net.double(2)),
            lambda net: (net.say("ada", "x"), net.double(1), net.double(1)),
            lambda net: (net.say("ada", "x"), net.lose(1)), lambda net: (net.say("ada", "x"), net.come(1)),
            lambda net: (net.say("ada", "x"), net.flow()),
            lambda net: net.stop("ada"), lambda net: give(net, "ada"), lambda net: net.lie("ada", "steps"),
        ]
        yield Cries()
        yield Cries(1)
        yield Net()
        yield Net(1)
        for deed in deeds:
            net = cries_of("ada", "ben", "cy")
            deed(net)
            yield net
        net = Net()
        cries_of("ada", "ben", "cy").copy_into(net)
        yield net

    def test_equal_are_just_those_with_equal_nets_and_letters(self):
        for (at, one), (by, other) in itertools.product(enumerate(self.unlike()), enumerate(self.unlike())):
            self.assertIs(one == other, at == by, (at, by))
            self.assertIs(one != other, at != by, (at, by))
            self.assertIs(one.marks() == other.marks(), at == by, (at, by))
            self.assertIsInstance(hash(one.marks()), int)
        for thing in any_things() + [self.net.marks(), self.net.deeds()]:
            self.assertFalse(self.net == thing)

    def test_equal_whatever_the_numbers_of_their_letters(self):
        one, other = self.net, self.net.copied()
        one.say("ada", "x")
        other.say("ada", "x")
        numbers = [other.double(1), other.lose(1), other.double(2), other.lose(2)]
        self.assertEqual(numbers, [4, None, 5, None])
        self.assertNotEqual(one.under_way(), other.under_way())
        self.assertEqual((one, one.marks()), (other, other.marks()))
        one.double(3)
        self.assertNotEqual(one, other)
        other.double(3)
        self.assertEqual(one, other)

    def test_equal_to_no_net_both_ways(self):
        net = Net()
        for name in ("ada", "ben", "cy", "dan"):
            if name == "ada":
                net.begin(name, PLACES[name])
            else:
                net.enter(name, "ada", PLACES[name])
        self.assertEqual(net.deeds(), self.net.deeds())
        for one, other in ((net, self.net), (self.net, net)):
            self.assertIs(one == other, False)
            self.assertIs(one != other, True)
            self.assertNotEqual(one.marks(), other.marks())

    def test_marks_are_made_of_plain_things(self):
        def look_at(thing, deep):
            self.assertLess(deep, 8)
            if isinstance(thing, tuple):
                for part in thing:
                    look_at(part, deep + 1)
            else:
                self.assertIn(type(thing), (int, str, bool, type(None)))
        self.net.say("ada", "x")
        self.net.flow()
        self.net.say("ben", "y")
        give(self.net, "ada")
        self.assertIsInstance(self.net.marks(), tuple)
        look_at(self.net.marks(), 0)

    def test_a_copy_stands_just_so_and_goes_its_own_way(self):
        def made():
            net = cries_of("ada", "ben", "cy")
            net.say("ada", "x")
            net.double(1)
            net.lose(2)
            return net
        net = made()
        copy = net.copied()
        self.assertIs(type(copy), Cries)
        self.assertEqual((copy, copy.deeds(), copy.under_way(), copy.copies()),
                         (made(), made().deeds(), made().under_way(), 2))
        deeds = [lambda one: one.say("ben", "y"), lambda one: one.come(1), lambda one: one.lose(3),
                 lambda one: one.double(3), lambda one: one.flow(), lambda one: one.stop("ada")]
        for deed in deeds:
            net = made()
            copy = net.copied()
            told = deed(copy)
            self.assertEqual((net, net.deeds(), net.under_way()), (made(), made().deeds(), made().under_way()))
            self.assertNotEqual((net, net.under_way()), (copy, copy.under_way()))
            self.assertEqual(deed(net), told)
            self.assertEqual((net, net.deeds(), net.under_way()), (copy, copy.deeds(), copy.under_way()))

    def test_a_bare_one_and_what_is_laid_on_others(self):
        net = self.net
        net.say("ada", "x")
        bare = net.bare_one()
        self.assertIs(type(bare), Cries)
        self.assertEqual((bare, bare.deeds(), bare.under_way()), (Cries(2), [], []))
        other = Cries(3)
        self.assertIs(net.copy_into(other), None)
        self.assertEqual((other.copies(), other.under_way(), other.deeds()), (3, net.under_way(), net.deeds()))
        other.flow()
        self.assertEqual(len(net.under_way()), 3)


class DeedRows(CryCase):
    def test_deeds_of_a_net_stand_between(self):
        net = self.net
        net.say("ada", "x")
        net.stop("cy")
        net.come(1)
        net.go_round()
        net.lose(2)
        net.double(3)
        net.flow()
        self.assertEqual(net.deeds()[4:], [("say", "ada", "x"), ("stop", "cy", True), ("come", 1), ("round", None),
                                           ("lose", 2), ("double", 3), ("flow",)])
        for row in net.deeds():
            self.assertIs(type(row), tuple)

    def test_rounds_leave_letters_alone_and_hand_words_on(self):
        net = self.net
        word = net.say("ada", "x")
        letters = net.under_way()
        self.assertIs(net.go_round(), True)
        self.assertEqual([net.heard(name) for name in net.names()], [[word]] * 4)
        self.assertEqual(net.under_way(), letters)
        self.assertIs(net.go_round(), False)
        self.assertEqual([net.come(number) for number in (1, 2, 3)], [False] * 3)


if __name__ == "__main__":
    unittest.main()
