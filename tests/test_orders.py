"""Points 111 to 115: tasks, moments and their steps, all ends of small worlds, and the first moment that is one."""

import inspect
import itertools
import unittest

from peersmeet import orders
from peersmeet.cries import Cries
from peersmeet.errors import NoCries, NoList, NoNumber, NoOrder, NotThere, NoTask, TooMany
from peersmeet.looks import look
from peersmeet.nets import Net
from peersmeet.orders import Moment, ends_of, first_that, is_task
from peersmeet.stores import Store
from tests.refusals import RefusalCase, any_things
from tests.test_cries import cries_of

TASKS = [
    ("turn", "ada"), ("back", "ada"), ("leave", "ada"), ("stop", "ada", True), ("begin", "ada", 5),
    ("enter", "zoe", "ada", 7), ("cut", (("ada",), ("ben",))), ("heal",), ("lie", "ada", "steps"), ("say", "ada", "x"),
    ("put", "ada", "a", "x"), ("round",), ("rest",),
]


def two():
    """Cries of two peers, which serve just each other."""
    return cries_of("ada", "ben")


class Tasks(RefusalCase):
    def test_names_and_arguments(self):
        forms = {is_task: "(thing)", ends_of: "(moment, *, most=300)", first_that: "(moment, tells, *, most=300)"}
        for call, form in forms.items():
            self.assertEqual((str(inspect.signature(call)), call.__module__), (form, orders.__name__))
        told = {name: "(self)" for name in ("net", "done", "left", "steps", "is_end", "marks")}
        told.update({"__init__": "(self, net, rows, *, losses=0, doubles=0)", "after": "(self, step)",
                     "__eq__": "(self, other)"})
        for name, form in told.items():
            self.assertEqual(str(inspect.signature(vars(Moment)[name])), form)
        self.assertEqual(Moment.__module__, orders.__name__)

    def test_each_form(self):
        for task in TASKS:
            self.assertIs(is_task(task), True)
            self.assertIs(is_task(list(task)), False)
            self.assertIs(is_task(task + (None,)), False)
            self.assertIs(is_task(task[:-1]), False)
            self.assertIs(is_task((task[0].upper(),) + task[1:]), False)
            for thing in any_things():
                self.assertIs(is_task((task[0],) + (thing,) * (len(task) - 1)), True)

    def test_what_is_none(self):
        for thing in any_things() + [("come", 1), ("flow",), ("seek", "ada", 5), ("find", "ada", "a"), ("round", None),
                                     ("rest", ["ada"]), ("fetch", "ada", None), ("away", "ada", "a"), ([], "ada"), (None,)]:
            self.assertIs(is_task(thing), False)


class Made(RefusalCase):
    def test_what_it_tells(self):
        net = two()
        net.say("ada", "x")
        moment = Moment(net, [[("turn", "ada"), ("heal",)], (), [("round",)]], losses=3, doubles=1)
        self.assertEqual((moment.net(), moment.done(), moment.left()), (net, (0, 0, 0), (3, 1)))
        self.assertEqual(moment.net().under_way(), net.under_way())
        self.assertEqual(Moment(net, []).left(), (0, 0))
        self.assertEqual([Moment(net, [], losses=many).left() for many in (0, 1, 2, 3)], [(many, 0) for many in range(4)])
        self.assertIsInstance(repr(moment), str)

    def test_it_and_the_cries_go_their_own_ways(self):
        net = two()
        moment = Moment(net, [])
        net.say("ada", "x")
        self.assertEqual(moment.net(), two())
        told = moment.net()
        told.stop("ada")
        self.assertEqual((moment.net(), moment.net().deeds()), (two(), two().deeds()))
        moment = Moment(net, [], doubles=1)
        step = moment.steps()[0]
        behind = moment.after(step)
        self.assertEqual((moment.net(), len(net.under_way())), (net, 1))
        self.assertEqual((behind.net().under_way(), behind.net().deeds()[-1]), ([], ("come", 1)))

    def test_tasks_with_tuples_in_the_place_of_lists(self):
        rows = [[("cut", [["ada"], ["ben"]])], [("put", {"a": [1, [2]]}, [], [()])]]
        moment = Moment(two(), rows)
        told = ((("cut", (("ada",), ("ben",))),), (("put", {"a": (1, (2,))}, (), ((),)),))
        self.assertEqual(moment.marks()[1], told)
        rows[0][0][1][0].append("zoe")
        rows[1][0][1]["a"].append(3)
        rows[1].clear()
        self.assertEqual(moment.marks()[1], told)
        # What is told may be changed.
        moment.marks()[1][1][0][1].clear()
        self.assertEqual(moment.marks()[1], told)
        self.assertEqual(moment, Moment(two(), list(told)))
        behind = moment.after(("task", 0))
        self.assertEqual((behind.net().side("ben"), behind.net().deeds()[-1]), (1, ("cut", (("ada",), ("ben",)))))

    def test_what_is_handed_in_stays(self):
        rows = [[("cut", [["ada"], ["ben"]])], ((("heal"),),)]
        ends_of(Moment(two(), rows))
        self.assertEqual(rows, [[("cut", [["ada"], ["ben"]])], ((("heal"),),)])

    def test_no_cries(self):
        for thing in any_things() + [Net()]:
            if not isinstance(thing, Cries):
                self.refused(NoCries, thing, Moment, thing, None, losses=9)

    def test_rows_and_tasks(self):
        net = two()
        self.refuses_all_but(NoList, lambda thing: isinstance(thing, (list, tuple)), lambda thing: Moment(net, thing, losses=9))
        self.refused_with(NoList, {"found": [[]] * 5}, Moment, net, [[]] * 5, losses=9)
        self.assertEqual(Moment(net, ([],) * 4).done(), (0,) * 4)
        for thing in any_things():
            if not isinstance(thing, (list, tuple)):
                self.refused(NoList, thing, Moment, net, [[("heal",)], thing, [None]], doubles=9)
                self.refused(NoTask, thing, Moment, net, [[("heal",)], [("heal",), thing, None], None], doubles=9)
        # A row as a whole, then its tasks, then the next row.
        self.refused_with(NoTask, {"found": ("heal", 1)}, Moment, net, [[("heal", 1)], None])
        self.refused_with(NoTask, {"found": "heal"}, Moment, net, [("heal",)])
        self.refused_with(NoTask, {"found": ["heal"]}, Moment, net, [[["heal"]]])

    def test_more_than_eight_tasks(self):
        net = two()
        for rows in ([[("heal",)] * 9], [[("heal",)] * 4, [("heal",)] * 5], [[("heal",)] * 3] * 3):
            self.refused_with(TooMany, {"many": 9}, Moment, net, rows, losses=9)
        self.refused_with(TooMany, {"many": 40}, Moment, net, [[("heal",)] * 10] * 4, losses=9)
        self.assertEqual(len(Moment(net, [[("heal",)] * 2] * 4).steps()), 4)
        self.refused_with(NoTask, {"found": None}, Moment, net, [[("heal",)] * 9, [None]])

    def test_the_two_numbers(self):
        net = two()
        right = (lambda thing: type(thing) is int and 0 <= thing <= 3)
        self.refuses_all_but(NoNumber, right, lambda thing: Moment(net, [], losses=thing, doubles=9))
        self.refuses_all_but(NoNumber, right, lambda thing: Moment(net, [], doubles=thing))
        for thing in (4, -1, True, False):
            self.refused(NoNumber, thing, Moment, net, [], losses=thing)
            self.refused(NoNumber, thing, Moment, net, [], doubles=thing)


class Steps(RefusalCase):
    def setUp(self):
        self.net = cries_of("ada", "ben", "cy")
        self.word = self.net.say("cy", "x")
        self.other = self.net.say("ada", "x")
        self.net.double(1)
        self.letters = sorted({letter for _, letter in self.net.under_way()})

    def test_in_their_order(self):
        self.assertEqual(len(self.letters), 4)
        # As Python sorts them: those of ada, which came later, go ahead.
        self.assertEqual([letter[:2] for letter in self.letters], [("ada", "ben"), ("ada", "cy"), ("cy", "ada"), ("cy", "ben")])
        come = [("come", letter) for letter in self.letters]
        lose = [("lose", letter) for letter in self.letters]
        double = [("double", letter) for letter in self.letters]
        rows = [[("heal",)], [], [("round",), ("rest",)]]
        tasks = [("task", 0), ("task", 2)]
        self.assertEqual(Moment(self.net, rows).steps(), tasks + come)
        self.assertEqual(Moment(self.net, rows, losses=1).steps(), tasks + come + lose)
        self.assertEqual(Moment(self.net, rows, doubles=2).steps(), tasks + come + double)
        self.assertEqual(Moment(self.net, rows, losses=3, doubles=3).steps(), tasks + come + lose + double)
        self.assertEqual(Moment(two(), [], losses=3, doubles=3).steps(), [])

    def test_what_is_told_is_the_askers_own(self):
        moment = Moment(self.net, [[("heal",)]])
        moment.steps().clear()
        self.assertEqual(len(moment.steps()), 5)

    def test_a_task(self):
        moment = Moment(self.net, [[("stop", "ada", True), ("back", "ada")], [("lie", "ben", "steps")]], losses=1)
        behind = moment.after(("task", 0))
        self.assertEqual((behind.done(), behind.left()), ((1, 0), (1, 0)))
        self.assertEqual((behind.net().standing(), behind.net().deeds()[-1]), (["ben", "cy"], ("stop", "ada", True)))
        self.assertEqual(behind.after(("task", 0)).net().peer("ada").number(), 2)
        self.assertEqual(behind.after(("task", 1)).done(), (1, 1))
        self.assertEqual(behind.after(("task", 1)).net().lies("ben"), "steps")
        # The moment itself never changes.
        self.assertEqual((moment.done(), moment.net()), ((0, 0), self.net))
        last = behind.after(("task", 1)).after(("task", 0))
        self.refused_with(NotThere, {"found": ("task", 0)}, last.after, ("task", 0))
        self.assertEqual(last.done(), (2, 1))

    def test_all_tasks_are_done_as_deeds(self):
        done = {
            ("turn", "ada"): lambda net: net.turn("ada"), ("back", "ada"): None, ("leave", "ada"): lambda net: net.leave("ada"),
            ("stop", "ada", False): lambda net: net.stop("ada", keep=False), ("begin", "zoe", 5): None,
            ("enter", "zoe", "ada", 7): lambda net: net.enter("zoe", "ada", 7),
            ("cut", (("ada",), ("ben", "cy"))): lambda net: net.cut([["ada"], ["ben", "cy"]]), ("heal",): lambda net: net.heal(),
            ("lie", "ada", None): lambda net: net.lie("ada", None), ("say", "ada", "y"): lambda net: net.say("ada", "y"),
            ("put", "ada", "a", None): lambda net: orders_put(net), ("round",): lambda net: net.go_round(),
            ("rest",): lambda net: net.rest(),
        }
        for task, deed in done.items():
            told = Moment(self.net, [[task]]).after(("task", 0))
            net = self.net.copied()
            if deed is not None:
                deed(net)
            self.assertEqual((told.net(), told.net().deeds(), told.done()), (net, net.deeds(), (1,)), task)

    def test_a_task_that_is_refused_is_passed_over(self):
        for task in TASKS:
            for thing in any_things():
                refused = (task[0],) + (thing,) * (len(task) - 1)
                if len(task) > 1:
                    moment = Moment(self.net, [[refused]]).after(("task", 0))
                    self.assertEqual((moment.net(), moment.done()), (self.net, (1,)))
                    self.assertEqual(moment.net().deeds(), self.net.deeds())
        for task in (("stop", "ada", 1), ("stop", "zoe", True), ("cut", [["ada"], ["ben"]]), ("begin", "zoe", 5), ("lie", "ada", "x"),
                     ("enter", "ada", "ben", 5), ("put", "ada", "a", "x" * 61)):
            self.assertEqual(Moment(self.net, [[task]]).after(("task", 0)).net(), self.net)

    def test_a_put_beyond_all_numbers_leaves_what_its_look_saw(self):
        self.net.peer_here("ada").takes(("a", 999999, "b", None))
        self.net.peer_here("cy").takes(("a", 999999, "b", None))
        self.net.lie("cy", "steps")
        ahead = self.net.copied()
        look(ahead, "ben", "a")
        self.assertEqual(ahead.peer("ben").wrongs(), {"cy": (1, 5)})
        moment = Moment(self.net, [[("put", "ben", "a", "x")]]).after(("task", 0))
        self.assertEqual((moment.net(), moment.net().deeds()), (ahead, self.net.deeds()))

    def test_with_the_least_number_of_a_letter(self):
        letter = self.net.under_way()[0][1]
        numbers = [number for number, one in self.net.under_way() if one == letter]
        self.assertEqual(numbers, [1, 5])
        moment = Moment(self.net, [], losses=2, doubles=1)
        deeds = {"come": ("come", 1), "lose": ("lose", 1), "double": ("double", 1)}
        lefts = {"come": (2, 1), "lose": (1, 1), "double": (2, 0)}
        for word in deeds:
            behind = moment.after((word, letter))
            self.assertEqual((behind.net().deeds()[-1], behind.left()), (deeds[word], lefts[word]))
        self.assertEqual([number for number, one in moment.after(("double", letter)).net().under_way() if one == letter], [1, 5, 6])
        behind = moment.after(("lose", letter)).after(("lose", letter))
        self.assertEqual((behind.left(), behind.net().deeds()[-1]), ((0, 1), ("lose", 5)))
        self.assertNotIn("lose", [word for word, _ in behind.steps()])
        behind = moment.after(("double", letter))
        self.assertNotIn("double", [word for word, _ in behind.steps()])
        self.assertEqual(self.net.heard("ada"), [self.other])
        self.assertEqual(moment.after(("come", self.letters[2])).net().heard("ada"), [self.other, self.word])

    def test_what_is_none_of_its_steps(self):
        moment = Moment(self.net, [[("heal",)], [("heal",)]], losses=1)
        giver, goal, (by, number, at, text), (name, place) = letter = self.letters[0]
        things = any_things() + [
            ("task", 2), ("task", -1), ("task", True), ("task", False), ("task", "0"), ("task", None), ["task", 0], ("task",),
            ("task", 0, 0), ("double", letter), ("come", 1), ("come", list(letter)), ("come", letter[:3]), ["come", letter],
            ("come", (giver, goal, (by, True, at, text), (name, place))), ("come", (giver, goal, (by, number, True, text), (name, place))),
            ("come", (giver, goal, [by, number, at, text], (name, place))), ("come", (giver, goal, (by, number, at, "y"), (name, place))),
            ("come", (goal, giver, (by, number, at, text), (name, place))), ("Come", letter), (1, letter),
        ]
        for thing in things:
            self.refused(NotThere, thing, moment.after, thing)
        self.assertIsInstance(moment.after(("lose", (giver, goal, (by, number, at, text), (name, place)))), Moment)
        # An end at the place 0 or 1 is no truth, either.
        net = Cries()
        net.begin("ada", 1)
        net.enter("ben", "ada", 9)
        word = net.say("ada", "x")
        self.assertEqual(Moment(net, []).steps(), [("come", ("ada", "ben", word, ("ada", 1)))])
        thing = ("come", ("ada", "ben", word, ("ada", True)))
        self.refused(NotThere, thing, Moment(net, []).after, thing)

    def test_ends(self):
        self.assertIs(Moment(two(), []).is_end(), True)
        self.assertIs(Moment(Cries(), [[], []], losses=3, doubles=3).is_end(), True)
        self.assertIs(Moment(two(), [[], [("heal",)]]).is_end(), False)
        self.assertIs(Moment(self.net, []).is_end(), False)
        self.assertIs(Moment(two(), [[("heal",)]]).after(("task", 0)).is_end(), True)


def orders_put(net):
    from peersmeet.looks import put
    put(net, "ada", "a", None)


class EqualMoments(RefusalCase):
    def unlike(self):
        """Moments of which no two are equal."""
        said = two()
        said.say("ada", "x")
        yield Moment(Cries(), [])
        yield Moment(Cries(1), [])
        yield Moment(two(), [])
        yield Moment(said, [])
        yield Moment(two(), [[]])
        yield Moment(two(), [[], []])
        yield Moment(two(), [], losses=1)
        yield Moment(two(), [], doubles=1)
        yield Moment(two(), [], losses=2)
        yield Moment(two(), [[("heal",)]])
        yield Moment(two(), [[("heal",), ("heal",)]])
        yield Moment(two(), [[("heal",)], [("heal",)]])
        yield Moment(two(), [[("heal",)], []])
        yield Moment(two(), [[], [("heal",)]])
        yield Moment(two(), [[("turn", {"a": [5]})]])
        yield Moment(two(), [[("turn", {"a": [6]})]])

    def test_equal_are_just_those_with_equal_cries_tasks_undone_and_numbers(self):
        for (at, one), (by, other) in itertools.product(enumerate(self.unlike()), enumerate(self.unlike())):
            self.assertIs(one == other, at == by, (at, by))
            self.assertIs(one.marks() == other.marks(), at == by, (at, by))
        for thing in any_things() + [two(), Moment(two(), []).marks()]:
            self.assertFalse(Moment(two(), []) == thing)

    def test_what_was_done_is_not_asked(self):
        one = Moment(two(), [[("heal",), ("round",)], []]).after(("task", 0))
        self.assertEqual(one, Moment(two(), [[("round",)], ()]))
        self.assertEqual(one.marks(), Moment(two(), [[("round",)], ()]).marks())
        self.assertEqual((one.done(), Moment(two(), [[("round",)], ()]).done()), ((1, 0), (0, 0)))

    def test_marks(self):
        net = two()
        net.say("ada", "x")
        moment = Moment(net, [[("heal",), ("round",)], [("stop", "ada", True)]], losses=2, doubles=1).after(("task", 0))
        self.assertEqual(moment.marks(), (net.marks(), ((("round",),), (("stop", "ada", True),)), (2, 1)))
        self.assertIs(type(moment.marks()), tuple)
        store = Store()
        self.assertIs(Moment(net, [[("turn", store)]]).marks()[1][0][0][1], store)


def all_orders(moment, steps=()):
    """All ends to which steps lead, gone one by one, with the steps."""
    told = moment.steps()
    if not told:
        return [(list(steps), moment)]
    return [end for step in told for end in all_orders(moment.after(step), (*steps, step))]


def unlike_moments(moment):
    """All unlike moments, in the order of their fewest steps, found by walks of each length."""
    found, walks = [], [([], moment)]
    while walks:
        behind = []
        for steps, one in walks:
            if all(one != other for _, other in found):
                found.append((steps, one))
                behind += [(steps + [step], one.after(step)) for step in one.steps()]
        walks = behind
    return found


class Worlds(RefusalCase):
    def worlds(self):
        one = cries_of("ada", "ben", "cy")
        one.say("ada", "x")
        doubled = one.copied()
        doubled.double(1)
        down = one.copied()
        down.stop("ben")
        yield Moment(two(), [[("heal",)], [("heal",)]])
        yield Moment(two(), [[("say", "ada", "x"), ("stop", "ada", False)], [("say", "ben", "y")]])
        yield Moment(two(), [[("say", "ada", "x")]], losses=1, doubles=1)
        yield Moment(two(), [[("stop", "ada", True), ("back", "ada")], [("put", "ben", "a", "x")], [("lie", "ada", "silence")]])
        yield Moment(one, [[("turn", "ben")]], losses=1)
        yield Moment(doubled, [[("stop", "cy", False)]])
        yield Moment(down, [[("back", "ben")], [("cut", [["ada"], ["ben", "cy"]])]])
        yield Moment(Cries(), [[("begin", "ada", 5), ("enter", "ben", "ada", 9)], [("begin", "ben", 7)]])
        yield Moment(two(), [])

    def test_ends_are_just_those_of_all_orders_each_with_a_shortest(self):
        for moment in self.worlds():
            ends = ends_of(moment)
            every = all_orders(moment)
            self.assertEqual([end for _, end in ends if not end.is_end()], [])
            for at, (steps, end) in enumerate(ends):
                self.assertEqual([type(steps), type(ends[at])], [list, tuple])
                one = moment
                for step in steps:
                    one = one.after(step)
                self.assertEqual(one, end)
                # The fewest, and of as many the first in the order of all.
                alike = [others for others, other in every if other == end]
                fewest = min(len(others) for others in alike)
                self.assertEqual(steps, [others for others in alike if len(others) == fewest][0])
            for _, end in every:
                self.assertEqual(len([other for _, other in ends if other == end]), 1)
            order = [next(at for at, (others, _) in enumerate(every) if others == steps) for steps, _ in ends]
            self.assertEqual(sorted(zip([len(steps) for steps, _ in ends], order)),
                             list(zip([len(steps) for steps, _ in ends], order)))

    def test_the_first_moments_are_told_in_the_order_of_all(self):
        for moment in self.worlds():
            every = unlike_moments(moment)
            for many, (steps, one) in enumerate(every[:60]):
                told = first_that(moment, lambda other: other == one)
                self.assertEqual(told, (steps, one))
                self.assertEqual([type(told), type(told[0])], [tuple, list])
            asked = []
            self.assertIs(first_that(moment, lambda other: asked.append(other) is not None), None)
            self.assertEqual(asked, [one for _, one in every])
            ends = [(steps, one) for steps, one in every if one.is_end()]
            self.assertEqual(ends_of(moment), ends)

    def test_a_moment_that_is_an_end(self):
        moment = Moment(two(), [])
        self.assertEqual(ends_of(moment), [([], moment)])
        self.assertEqual(first_that(moment, lambda one: True), ([], moment))
        self.assertIs(first_that(moment, lambda one: False), None)

    def test_as_many_as_are_allowed_and_one_more(self):
        for moment in self.worlds():
            every = unlike_moments(moment)
            many = len(every)
            self.assertEqual(ends_of(moment, most=many), ends_of(moment))
            self.assertIs(first_that(moment, lambda one: False, most=many), None)
            last = every[-1][1]
            self.assertEqual(first_that(moment, lambda one: one == last, most=many), every[-1])
            for most in {1, many // 2, many - 1} - {0, many}:
                self.refused_with(TooMany, {"many": most + 1}, ends_of, moment, most=most)
                self.refused_with(TooMany, {"many": most + 1}, first_that, moment, lambda one: False, most=most)
                self.refused_with(TooMany, {"many": most + 1}, first_that, moment, lambda one: one == last, most=most)
                asked = []
                self.refusal(first_that, moment, lambda one: asked.append(one) is not None, most=most)
                self.assertEqual(asked, [one for _, one in every[:most]])
                # One of the first so many is told all the same.
                for at in {0, most - 1}:
                    self.assertEqual(first_that(moment, lambda one: one == every[at][1], most=most), every[at])

    def test_without_a_number_three_hundred(self):
        net = cries_of("ada", "ben", "cy", "dan")
        rows = [[("say", name, "x")] for name in ("ada", "ben", "cy")]
        moment = Moment(net, rows, doubles=1)
        self.refused_with(TooMany, {"many": 301}, ends_of, moment)
        self.refused_with(TooMany, {"many": 301}, first_that, moment, lambda one: False)
        self.refused_with(TooMany, {"many": 2001}, ends_of, moment, most=2000)

    def test_a_function_that_changes_what_it_is_handed(self):
        net = cries_of("ada", "ben", "cy")
        net.say("ada", "x")
        moment = Moment(net, [[("round",)]])

        def tells(one):
            cries = one.net()
            cries.flow()
            cries.stop("ada")
            one.steps().clear()
            return False
        asked = []
        self.assertIs(first_that(moment, tells), None)
        first_that(moment, lambda one: asked.append(one) is not None)
        self.assertEqual(asked, [one for _, one in unlike_moments(moment)])
        self.assertEqual(moment.net(), net)

    def test_refused_in_order(self):
        moment = Moment(two(), [])
        right = (lambda thing: type(thing) is int and 1 <= thing <= 2000)
        for call in (lambda thing, **named: ends_of(thing, **named),
                     lambda thing, **named: first_that(thing, lambda one: True, **named)):
            for thing in any_things() + [two(), moment.marks()]:
                if not isinstance(thing, Moment):
                    self.refused(NoOrder, thing, call, thing, most=0)
            self.refuses_all_but(NoNumber, right, lambda thing: call(moment, most=thing))
            for thing in (0, 2001, True, -1):
                self.refused(NoNumber, thing, call, moment, most=thing)
            self.assertTrue(call(moment, most=1) and call(moment, most=2000))

    def test_a_word_reaches_all_in_all_orders(self):
        # Whatever comes first: behind two rounds at the end all have heard it.
        net = cries_of("ada", "ben", "cy")
        moment = Moment(net, [[("say", "ada", "x")], [("turn", "cy"), ("stop", "ben", True), ("back", "ben")]], losses=1)
        ends = ends_of(moment)
        self.assertGreater(len(ends), 1)
        for _, end in ends:
            last = end.net()
            last.go_round()
            last.go_round()
            self.assertEqual([last.heard(name) for name in last.names()], [[("ada", 1, 1, "x")]] * 3)

    def test_what_is_told_may_be_changed(self):
        moment = Moment(two(), [[("say", "ada", "x")]])
        again = ends_of(moment)
        told = ends_of(moment)
        told[0][0].clear()
        told.clear()
        first_that(moment, lambda one: one.is_end())[0].clear()
        self.assertEqual(ends_of(moment), again)
        self.assertEqual(first_that(moment, lambda one: one.is_end()), again[0])


if __name__ == "__main__":
    unittest.main()
