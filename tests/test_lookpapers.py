"""Points 77 and 78: papers of seeks, looks and puts, shown by a walk that believes nobody."""

import inspect
import unittest

from peersmeet import lookpapers
from peersmeet.errors import NoPaper
from peersmeet.lookpapers import seek_told, shows_look, shows_put, shows_seek
from peersmeet.looks import look, put, seek
from peersmeet.things import card_of
from tests.histories import History, going
from tests.refusals import RefusalCase, any_things
from tests.test_looks import ALL, calls, keepers, mine, on, step
from tests.test_nets import give, net_of_peers


def paper_of(*rows, asker="ada", own=50, place=235, copies=2, passed=()):
    """A seek's paper by ada, at 50, for a place that cy keeps; round: eve 10, fay 20, ada 50 and so on."""
    return (asker, own, place, copies, tuple(passed), tuple(rows))


# To gil, which doesn't answer; ben tells of cy, which lies; hal tells that the place is its own, eve doesn't answer.
ROWS = (
    step("ada", False, [], on("gil")), step("gil", False, [], None), step("ada", False, ["gil"], on("ben")),
    step("ben", False, ["gil"], on("cy")), step("cy", True, ["gil"], on("cy")),
    step("ben", False, ["gil", "cy"], on("eve")), step("eve", True, ["gil", "cy"], ("back", "hal", 255)),
    step("hal", True, ["gil", "cy"], mine("hal")), keepers("hal", ["gil"], "hal", "fay"), ("called", "hal", True),
    ("called", "fay", False), keepers("hal", ["gil", "fay"], "hal", "ada"), ("called", "ada", True),
)
# The shortest ones: the asker tells that the place is its own.
SHORT = (step("ada", False, [], mine("ada")), keepers("ada", [], "ada"), ("called", "ada", True))


def otherwise(rows, at, row):
    """Rows with another one at a number."""
    return rows[:at] + (row,) + rows[at + 1:]


class PaperCase(RefusalCase):
    def shown(self, *rows, **head):
        paper = paper_of(*rows, **head)
        self.assertIs(shows_seek(paper), True, paper)
        return seek_told(paper)

    def not_shown(self, paper):
        self.assertIs(shows_seek(paper), False, paper)
        self.refused(NoPaper, paper, seek_told, paper)

    def rows_not_shown(self, *rows, **head):
        self.not_shown(paper_of(*rows, **head))


class Shown(PaperCase):
    def test_names_and_arguments(self):
        for call in (shows_seek, shows_look, shows_put):
            self.assertEqual(str(inspect.signature(call)), "(thing)")
        self.assertEqual(str(inspect.signature(seek_told)), "(paper)")
        for call in (shows_seek, shows_look, shows_put, seek_told):
            self.assertEqual(call.__module__, lookpapers.__name__)

    def test_what_a_paper_tells(self):
        self.assertEqual(self.shown(*ROWS), (["hal", "ada"], ["gil", "fay"], ["cy"]))
        self.assertEqual(self.shown(*SHORT), (["ada"], [], []))
        told = seek_told(paper_of(*ROWS))
        self.assertIs(type(told), tuple)
        for names in told:
            self.assertIs(type(names), list)
            names.clear()
        self.assertEqual(self.shown(*ROWS), (["hal", "ada"], ["gil", "fay"], ["cy"]))

    def test_papers_of_all_nets_are_shown(self):
        for seed in range(120):
            history = History(seed + 10000)
            net = history.deeds(30)
            for asker in net.standing():
                place = history.chance.randrange(256)
                names, paper = seek(net, asker, place)
                found, silent, wrong = seek_told(paper)
                self.assertEqual(found, names)
                self.assertEqual(silent, [row[1] for row in paper[5] if row[-1] is None or row[-1] is False])
                self.assertEqual(wrong, [name for name in wrong if net.lies(name) == "steps"])
                self.assertIs(shows_look(look(net, asker, "key")[1]), True)
                told = put(net, asker, "key", history.chance.choice([None, "", "x" * 33]))
                self.assertIs(shows_put(told[2]), True)
                if history.chance.random() < 0.3:
                    history.deed()
                    if asker not in going(net):
                        break

    def test_any_things_and_papers_as_lists(self):
        paper = paper_of(*ROWS)
        for thing in any_things() + [list(paper), paper[:5], paper + (1,), (), (paper,), ROWS]:
            for call in (shows_seek, shows_look, shows_put):
                self.assertIs(call(thing), False)
            self.refused(NoPaper, thing, seek_told, thing)
        self.assertEqual((shows_look(paper), shows_put(paper)), (False, False))


class Heads(PaperCase):
    def test_each_part_is_of_its_kind(self):
        good = paper_of(*SHORT)
        self.assertIs(shows_seek(good), True)
        parts = (
            [None, "Ada", "", 5, ["ada"]], [None, 256, -1, True, "50"], [None, 256, -1, False, "235"],
            [None, 0, 5, True, "2"], [None, [], "ben", ["ben"], ("Ben",), (5,), (None,), {}], [None, [], list(SHORT), {}],
        )
        for at, things in enumerate(parts):
            for thing in things:
                self.not_shown(good[:at] + (thing,) + good[at + 1:])

    def test_the_asker_and_its_place_are_those_of_the_rows(self):
        self.rows_not_shown(*SHORT, asker="ben")
        self.rows_not_shown(*SHORT, own=51)
        self.rows_not_shown(*ROWS, asker="ben", own=150)
        rows = (step("ada", False, [], on("cy")), step("cy", True, [], mine("cy")), keepers("cy", [], "cy"), *calls("cy"))
        for own in (50, 0, 255):
            self.shown(*rows, own=own)
        for own in (None, 256, -1, True, "50", []):
            self.rows_not_shown(*rows, own=own)

    def test_passed_over_are_unlike_names_rising_without_the_asker(self):
        def rows(*names):
            return (step("ada", False, names, mine("ada")),) + SHORT[1:]
        for passed in (("ben",), ("ben", "cy"), ("aaa", "zoe"), tuple("bcdefghijk")):
            self.shown(*rows(*passed), passed=passed)
        for passed in (("cy", "ben"), ("ben", "ben"), ("ada",), ("ada", "ben"), ("ben", "cy", "cy"), ("Ben",), ("",),
                       (5,), (None,), (1, 2), ("ben", 5), ("abcdefghi",)):
            self.rows_not_shown(*rows(*passed), passed=passed)

    def test_passed_over_are_left_out_from_the_first_row_on(self):
        self.rows_not_shown(*SHORT, passed=("ben",))
        self.rows_not_shown(step("ada", False, ["ben"], mine("ada")), *SHORT[1:])
        self.rows_not_shown(*ROWS, passed=("zoe",))

    def test_no_rows_and_rows_left_out_or_put_on(self):
        for many in range(len(ROWS)):
            self.rows_not_shown(*ROWS[:many])
            self.rows_not_shown(*ROWS[many:][1:])
        for at, row in enumerate(ROWS):
            self.rows_not_shown(*ROWS[:at], *ROWS[at + 1:])
            self.rows_not_shown(*ROWS[:at], row, *ROWS[at:])
            self.rows_not_shown(*ROWS, row)
            if at > 0:
                self.rows_not_shown(*ROWS[:at - 1], row, ROWS[at - 1], *ROWS[at + 1:])


class Steps(PaperCase):
    def otherwise(self, row):
        """The row with one part otherwise, whatever part this is."""
        yield from (list(row), row[:-1], row + (None,), None, ())
        for part in range(len(row)):
            things = [5, "zoe", [], {}, (), 0, 1, ("zoe", 5), ("on", "zoe"), ("on", "zoe", 256), ("on", "Zoe", 100),
                      ("on", 5, 100), ("on", [], 100), (("zoe", 5),), (("zoe", 256), ("hal", 255)), ([],), ("hal",)]
            if isinstance(row[part], tuple):
                things.append(list(row[part]))
            if isinstance(row[part], bool):
                things.append(int(row[part]))
            for thing in things:
                if row[part] != thing or isinstance(row[part], bool):
                    yield row[:part] + (thing,) + row[part + 1:]

    def test_each_part_of_a_row_is_as_it_must_be(self):
        for at, row in enumerate(ROWS):
            for other in self.otherwise(row):
                self.rows_not_shown(*ROWS[:at], other, *ROWS[at + 1:])
                self.rows_not_shown(*ROWS[:at], other, *ROWS[at:])
            for other in ROWS:
                self.rows_not_shown(*ROWS[:at], other, *ROWS[at:])

    def test_arrived_is_as_the_way_was(self):
        for at, row in enumerate(ROWS[:8]):
            self.rows_not_shown(*otherwise(ROWS, at, (row[0], row[1], not row[2], row[3], row[4])))

    def test_left_out_are_just_those_that_were_as_they_came(self):
        at = 7
        for without in ((), ("gil",), ("cy", "gil"), ("gil", "cy", "zoe"), ("gil", "cy", "cy"), ("ben", "gil", "cy")):
            self.rows_not_shown(*otherwise(ROWS, at, ROWS[at][:3] + (without,) + ROWS[at][4:]))

    def tells(self, told, *, arrived=False, ahead=(), asked="ada", passed=()):
        """Whether one may tell this, as far as the next row is of whom it told."""
        name, word = told[1], told[0]
        left = [row[1] for row in ahead if row[4] is None or row[4][:2] == ("on", row[1])]
        so = arrived or word == "back" or not 0 < (told[2] - 50) % 256 < (235 - 50) % 256
        without = list(passed) + left
        peer = (name, told[2])
        return shows_seek(paper_of(
            *ahead, step(asked, arrived, without, told), step(name, so, without, ("mine",) + peer),
            ("keepers", name, (), (peer,)), ("called", name, True), passed=passed, copies=1))

    def test_a_step_on_goes_to_one_that_stands_between(self):
        for place in (51, 100, 234):
            self.assertIs(self.tells(("on", "zoe", place)), True)
        self.assertIs(self.tells(("on", "gil", 200)), True)
        for name in ("Zoe", "", "abcdefghi", 5, None, [], {}):
            self.assertIs(self.tells(("on", name, 100)), False)

    def test_or_to_one_that_comes_sooner_round_from_the_place(self):
        for place in (235, 255, 0, 49):
            self.assertIs(self.tells(("on", "zoe", place)), True)
        # At the asker's own place names decide.
        self.assertIs(self.tells(("on", "aaa", 50)), True)
        self.assertIs(self.tells(("on", "zoe", 50)), False)

    def test_with_the_word_of_the_way(self):
        for word in ("back", "mine", "On", "off"):
            for place in (100, 240):
                self.assertIs(self.tells((word, "zoe", place)), False)

    def test_to_one_that_is_not_left_out(self):
        self.assertIs(self.tells(("on", "zoe", 100), passed=("zoe",)), False)
        self.assertIs(self.tells(("on", "zoe", 100), passed=("zed",)), True)
        self.rows_not_shown(*otherwise(ROWS, 2, step("ada", False, ["gil"], on("gil"))))
        self.rows_not_shown(*otherwise(ROWS, 5, step("ben", False, ["gil", "cy"], on("cy"))))

    def test_back_goes_to_one_that_comes_sooner(self):
        def back(word, name, place, more=True):
            return shows_seek(paper_of(
                step("ada", False, [], on("cy")), step("cy", True, [], (word, name, place)),
                step(name, more, [], ("mine", name, place)), ("keepers", name, (), ((name, place),)),
                ("called", name, True), copies=1))
        for place in (235, 236, 239):
            self.assertIs(back("back", "zoe", place), True)
            self.assertIs(back("on", "zoe", place), False)
            self.assertIs(back("back", "zoe", place, False), False)
        for place in (241, 255, 0, 100, 234):
            self.assertIs(back("back", "zoe", place), False)
            self.assertIs(back("on", "zoe", place), False)
        self.assertIs(back("back", "cat", 240), True)
        self.assertIs(back("back", "zoe", 240), False)

    def test_the_asker_tells_neither_nothing_nor_the_lie(self):
        self.rows_not_shown(step("ada", False, [], None), *SHORT)
        self.rows_not_shown(step("ada", False, [], on("ada")), *SHORT)
        self.rows_not_shown(step("ada", False, [], ("back", "ada", 50)), *SHORT)
        # Where another one tells of the asker, it tells nothing else either.
        rows = (step("ada", False, [], on("ben")), step("ben", False, [], on("ada")))
        self.shown(*rows, step("ada", True, [], mine("ada")), *SHORT[1:])
        self.rows_not_shown(*rows, step("ada", True, [], None), step("ben", False, ["ada"], mine("ben")),
                            keepers("ben", ["ada"], "ben"), ("called", "ben", True), copies=1)
        self.rows_not_shown(*rows, step("ada", True, [], on("ada")), step("ben", False, ["ada"], mine("ben")),
                            keepers("ben", [], "ben"), ("called", "ben", True), copies=1)

    def test_who_told_anything_does_not_tell_nothing_later(self):
        rows = (step("ada", False, [], on("ben")), step("ben", False, [], on("gil")), step("gil", False, [], None))
        behind = (keepers("ada", ["gil"], "ada"), ("called", "ada", True))
        self.shown(*rows, step("ben", False, ["gil"], mine("ben")), keepers("ben", ["gil"], "ben"),
                   ("called", "ben", True))
        self.rows_not_shown(*rows, step("ben", False, ["gil"], None), step("ada", False, ["gil", "ben"], mine("ada")),
                            keepers("ada", ["gil", "ben"], "ada"), ("called", "ada", True))
        self.rows_not_shown(*rows, *behind)

    def test_who_told_of_one_that_is_left_out_is_asked_again(self):
        rows = (step("ada", False, [], on("ben")), step("ben", False, [], on("gil")), step("gil", False, [], None))
        self.rows_not_shown(*rows, step("ada", False, ["gil"], mine("ada")), keepers("ada", ["gil"], "ada"),
                            ("called", "ada", True))
        self.rows_not_shown(*rows, step("ben", False, [], mine("ben")), keepers("ben", ["gil"], "ben"),
                            ("called", "ben", True))

    def test_the_place_of_who_tells_mine_or_the_lie(self):
        self.rows_not_shown(*otherwise(ROWS, 7, step("hal", True, ["gil", "cy"], ("mine", "hal", 254))))
        self.rows_not_shown(*otherwise(ROWS, 4, step("cy", True, ["gil"], ("on", "cy", 241))))
        self.rows_not_shown(*otherwise(ROWS, 4, step("cy", True, ["gil"], ("back", "cy", 240))))
        self.rows_not_shown(*otherwise(ROWS, 7, step("hal", True, ["gil", "cy"], ("Mine", "hal", 255))))
        self.rows_not_shown(*otherwise(ROWS, 7, step("hal", True, ["gil", "cy"], mine("eve"))))

    def test_a_lie_and_nothing_are_told_by_any_other_one(self):
        lie = (step("ada", False, [], on("ben")), step("ben", False, [], on("ben")),
               step("ada", False, ["ben"], mine("ada")))
        self.assertEqual(self.shown(*lie, *SHORT[1:]), (["ada"], [], ["ben"]))
        nothing = (lie[0], step("ben", False, [], None), lie[2])
        self.assertEqual(self.shown(*nothing, keepers("ada", ["ben"], "ada"), SHORT[2]), (["ada"], ["ben"], []))

    def test_each_name_has_one_place(self):
        for at, row in ((6, step("eve", True, ["gil", "cy"], ("back", "ada", 49))),
                        (8, ("keepers", "hal", ("gil",), (("hal", 255), ("eve", 11)))),
                        (8, ("keepers", "hal", ("gil",), (("hal", 254), ("fay", 20)))),
                        (11, ("keepers", "hal", ("gil", "fay"), (("hal", 255), ("ada", 51))))):
            self.rows_not_shown(*otherwise(ROWS, at, row))
        # Of gil, too, which was told of and didn't answer.
        self.rows_not_shown(
            step("ada", False, [], on("ben")), step("ben", False, [], ("on", "ada", 51)),
            step("ada", True, [], ("mine", "ada", 51)), ("keepers", "ada", (), (("ada", 51),)), ("called", "ada", True))


class Keepers(PaperCase):
    def rows(self, *peers, teller="hal", silent=(), copies=2, first=None, answers=()):
        """A paper in which hal tells these keepers, and all of them answer."""
        ahead = (step("ada", False, [], on("hal")), step("hal", True, [], mine("hal"))) if first is None else first
        told = ("keepers", teller, tuple(silent), tuple(peers))
        return paper_of(*ahead, told, *[("called", name, True) for name, _ in peers], copies=copies)

    def test_one_to_copies(self):
        names = [("hal", 255), ("eve", 10), ("fay", 20), ("ada", 50), ("ben", 150)]
        for copies in (1, 2, 3, 4):
            for many in range(6):
                self.assertIs(shows_seek(self.rows(*names[:many], copies=copies)), 1 <= many <= copies)

    def test_in_the_order_round_from_the_place(self):
        good = [("cy", 240), ("hal", 255), ("eve", 10), ("fay", 20)]
        self.assertIs(shows_seek(self.rows(*good, copies=4)), True)
        for at in range(3):
            wrong = list(good)
            wrong[at], wrong[at + 1] = wrong[at + 1], wrong[at]
            self.assertIs(shows_seek(self.rows(*wrong, copies=4)), False)
        for peers, right in (((("gal", 255), ("hal", 255)), True), ((("hal", 255), ("gal", 255)), False),
                             ((("hal", 255), ("ida", 255)), True), ((("ida", 255), ("hal", 255)), False),
                             ((("hal", 255), ("zoe", 234)), True), ((("zoe", 234), ("hal", 255)), False),
                             ((("zoe", 235), ("hal", 255)), True), ((("hal", 255), ("hal", 255)), False),
                             ((("hal", 255), ("hal", 0)), False), ((("zoe", 240), ("zoe", 241)), False)):
            self.assertIs(shows_seek(self.rows(*peers)), right, peers)

    def test_who_tells_them_among_them_or_as_many_as_copies(self):
        for peers, copies, right in (
                ([("cy", 240)], 1, True), ([("cy", 240)], 2, False), ([("cy", 240), ("eve", 10)], 2, True),
                ([("cy", 240), ("eve", 10)], 3, False), ([("cy", 240), ("hal", 255)], 3, True), ([("hal", 255)], 4, True)):
            self.assertIs(shows_seek(self.rows(*peers, copies=copies)), right, peers)

    def test_a_row_that_cannot_stand_there_is_not_passed_by(self):
        self.rows_not_shown(step("ada", False, [], ("on", "zoe", 50)), *SHORT)
        self.rows_not_shown(step("ada", False, [], ("back", "zoe", 240)), *SHORT)
        ahead = (step("ada", False, [], on("hal")), step("hal", True, [], mine("hal")))
        self.rows_not_shown(*ahead, keepers("hal", [], "hal"), ("called", "hal", False), *calls("hal"))
        rows = (*ahead, keepers("hal", [], "cy", "hal"), ("called", "cy", False))
        again = keepers("hal", ["cy"], "hal")
        self.shown(*rows, again, *calls("hal"), copies=4)
        for names in (("hal", "fay", "ada"), ("fay",), ("cy", "hal"), ("eve", "hal")):
            self.rows_not_shown(*rows, keepers("hal", ["cy"], *names), again, *calls("hal"), copies=4)
        self.rows_not_shown(*rows, keepers("hal", [], "hal"), again, *calls("hal"), copies=4)

    def test_one_that_is_told_twice(self):
        ahead = (step("ada", False, [], on("hal")), step("hal", True, [], mine("hal")))
        self.rows_not_shown(*ahead, keepers("hal", [], "hal", "hal"), *calls("hal"))
        self.rows_not_shown(*ahead, keepers("hal", [], "hal", "eve", "hal"), *calls("hal", "eve"), copies=3)

    def test_told_by_who_told_mine_and_with_just_the_silent(self):
        self.assertIs(shows_seek(self.rows(("hal", 255))), True)
        self.assertIs(shows_seek(self.rows(("hal", 255), teller="ada")), False)
        self.assertIs(shows_seek(self.rows(("hal", 255), silent=["eve"])), False)
        for silent in ((), ("fay", "gil"), ("gil", "cy"), ("gil", "gil")):
            self.rows_not_shown(*otherwise(ROWS, 8, keepers("hal", silent, "hal", "fay")))

    def test_none_of_them_is_silent(self):
        ahead = (step("ada", False, [], on("gil")), step("gil", False, [], None), step("ada", False, ["gil"], mine("ada")))
        self.shown(*ahead, keepers("ada", ["gil"], "ada", "ben"), *calls("ada", "ben"))
        self.rows_not_shown(*ahead, keepers("ada", ["gil"], "ada", "gil"), *calls("ada", "gil"))
        self.rows_not_shown(*ahead, keepers("ada", ["gil"], "ada", "gil"), ("called", "ada", True), ("called", "gil", False),
                            keepers("ada", ["gil", "gil"], "ada"))

    def test_who_lies_or_is_passed_over_may_be_one(self):
        rows = (step("ada", False, [], on("cy")), step("cy", True, [], on("cy")), step("ada", False, ["cy"], on("hal")),
                step("hal", True, ["cy"], mine("hal")), keepers("hal", [], "cy", "hal"))
        self.assertEqual(self.shown(*rows, *calls("cy", "hal")), (["cy", "hal"], [], ["cy"]))
        # Who told the lie answers, too.
        self.rows_not_shown(*rows, ("called", "cy", False), keepers("hal", ["cy"], "hal"), *calls("hal"))
        rows = (step("ada", False, ["ben"], mine("ada")), keepers("ada", [], "ada", "ben"))
        self.assertEqual(self.shown(*rows, *calls("ada", "ben"), passed=("ben",))[0], ["ada", "ben"])

    def test_called_in_order_each_once(self):
        rows = ROWS[:8] + (keepers("hal", ["gil"], "hal", "fay"),)
        self.shown(*rows, *calls("hal", "fay"))
        for called in (("hal",), ("fay",), ("fay", "hal"), ("hal", "hal"), ("hal", "fay", "fay"), ("hal", "ada"),
                       ("hal", "fay", "ada"), ("hal", "hal", "fay"), ()):
            self.rows_not_shown(*rows, *calls(*called))

    def test_asked_for_again_at_once_behind_a_silent_one(self):
        rows = ROWS[:8] + (keepers("hal", ["gil"], "hal", "fay"), ("called", "hal", True), ("called", "fay", False))
        again = keepers("hal", ["gil", "fay"], "hal", "ada")
        self.shown(*rows, again, *calls("ada"))
        self.rows_not_shown(*rows, *calls("ada"))
        self.rows_not_shown(*rows, again)
        self.rows_not_shown(*rows, again, *calls("hal", "ada"))
        self.rows_not_shown(*rows, again, again, *calls("ada"))
        self.rows_not_shown(*rows)
        # Not where the last one answers.
        self.rows_not_shown(*rows[:-1], *calls("fay"), keepers("hal", ["gil"], "hal", "fay"))

    def test_told_again_are_those_ahead_but_the_silent_one_and_at_most_one_behind(self):
        ahead = (step("ada", False, [], on("hal")), step("hal", True, [], mine("hal")))
        told = keepers("hal", [], "cy", "hal", "eve", "fay")

        def again(silent, *peers):
            called = tuple(("called", name, name != silent) for name in ("cy", "hal", "eve", "fay"))
            called = called[:[row[1] for row in called].index(silent) + 1]
            left = tuple(("called", name, True) for name, _ in peers if name not in [row[1] for row in called])
            return shows_seek(paper_of(
                *ahead, told, *called, ("keepers", "hal", (silent,), tuple(peers)), *left, copies=4))
        cy, hal, eve, fay, ada, ben = ("cy", 240), ("hal", 255), ("eve", 10), ("fay", 20), ("ada", 50), ("ben", 150)
        for peers, right in (((cy, hal, fay), True), ((cy, hal, fay, ada), True), ((cy, hal, fay, ("zoe", 21)), True),
                             ((cy, hal, fay, ada, ben), False), ((cy, hal), False), ((cy, hal, ada), False),
                             ((cy, hal, eve, fay), False), ((cy, hal, ("zoe", 15), fay), False),
                             ((("zoe", 236), cy, hal, fay), False), ((hal, fay, ada), False), ((cy, fay, ada), False)):
            self.assertIs(again("eve", *peers), right, peers)
        self.assertIs(again("cy", hal, eve, fay), True)
        self.assertIs(again("cy", hal, eve, fay, ben), True)
        self.assertIs(again("fay", cy, hal, eve), True)
        self.assertIs(again("fay", cy, hal, eve, ada), True)
        self.assertIs(again("fay", cy, hal), False)
        rows = (*ahead, keepers("hal", [], "cy", "hal"), ("called", "cy", False))
        self.shown(*rows, keepers("hal", ["cy"], "hal"), *calls("hal"), copies=4)
        self.shown(*rows, keepers("hal", ["cy"], "hal", "fay"), *calls("hal", "fay"), copies=4)
        self.rows_not_shown(*rows, keepers("hal", ["cy"], "hal", "fay", "ada"), *calls("hal", "fay", "ada"), copies=4)

    def test_as_many_as_copies_hold_when_told_again(self):
        ahead = (step("ada", False, [], on("hal")), step("hal", True, [], mine("hal")))
        rows = ahead + (keepers("hal", [], "cy", "fay"), ("called", "cy", False))
        self.shown(*rows, keepers("hal", ["cy"], "fay", "ben"), *calls("fay", "ben"))
        self.rows_not_shown(*rows, keepers("hal", ["cy"], "fay"), *calls("fay"))
        self.shown(*ahead, keepers("hal", [], "cy"), ("called", "cy", False), keepers("hal", ["cy"], "hal"), *calls("hal"),
                   copies=1)

    def test_who_told_anything_answers(self):
        ahead = (step("ada", False, [], on("ben")), step("ben", False, [], on("hal")), step("hal", True, [], mine("hal")))
        for silent, right in (("hal", False), ("ben", False), ("ada", False), ("cy", True), ("fay", True)):
            names = [name for name in ("cy", "hal", "fay", "ada", "ben") if name in ("hal", silent)]
            rows = [keepers("hal", [], *names)]
            for name in names:
                rows.append(("called", name, name != silent))
                if name == silent:
                    rows.append(keepers("hal", [silent], *[one for one in names if one != silent]))
            self.assertIs(shows_seek(paper_of(*ahead, *rows)), right, silent)


class LooksAndPuts(PaperCase):
    def setUp(self):
        self.net = net_of_peers(*ALL)
        self.old, self.new = card_of("a", 4, "zoe", text="old"), card_of("a", 5, "ada", text="new")
        give(self.net, "cy", self.old, [])
        give(self.net, "hal", self.new, [])
        self.look = look(self.net, "ada", "a")[1]

    def test_looks_that_are_shown(self):
        key, paper, told = self.look
        self.assertEqual((key, told), ("a", (("cy", self.old), ("hal", self.new))))
        self.assertIs(shows_look(self.look), True)
        for one in (None, self.old, self.new, card_of("a", 1, "q")):
            for other in (None, self.old, self.new, card_of("a", 999999, "q", text="x" * 60)):
                self.assertIs(shows_look((key, paper, (("cy", one), ("hal", other)))), True)

    def test_looks_with_a_part_otherwise(self):
        key, paper, told = self.look
        wrong = [
            ("b", paper, told), ("A", paper, told), (None, paper, told), ([], paper, told), (key, None, told),
            (key, paper[:-1], told), (key, self.look, told), (key, paper, list(told)), (key, paper, None),
            (key, paper, told[:1]), (key, paper, told + told[:1]), (key, paper, told[::-1]), (key, paper, ()),
            (key, paper, (told[0], ("eve", None))), (key, paper, (list(told[0]), told[1])),
            (key, paper, (told[0], ("hal",))), (key, paper, (told[0], ("hal", None, None))),
            (key, paper, (told[0], ("hal", card_of("b", 1, "x")))), (key, paper, (told[0], ("hal", 5))),
            (key, paper, (told[0], ("hal", list(self.new)))), (key, paper, (told[0], ("hal", False))),
            (key, paper, (told[0], ("hal", ("a", 0, "x", None)))), (key, paper), (key, paper, told, told), [key, paper, told],
            (key, seek(self.net, "ada", 233)[1], told), (key, seek(self.net, "ada", 8)[1], told),
        ]
        for thing in wrong:
            self.assertIs(shows_look(thing), False, thing)
        self.assertIs(shows_look((key, seek(self.net, "ben", 232)[1], told)), True)

    def test_puts_that_are_shown(self):
        for text in (None, "", "text", "x" * 60):
            paper = put(self.net, "ben", "a", text)[2]
            self.assertIs(shows_put(paper), True)
        self.assertIs(shows_put(put(self.net, "ben", "new", "x")[2]), True)

    def test_puts_with_a_part_otherwise(self):
        ahead = self.net.copied()
        paper = put(self.net, "ada", "a", "x" * 16)[2]
        shown, card, seeks = paper
        self.assertEqual(card[:3], ("a", 6, "ada"))
        by_ben = tuple(seek(ahead, "ben", place)[1] for place in (232, 8, 40))
        copies = net_of_peers(*ALL, copies=1)
        by_one = tuple(seek(copies, "ada", place)[1] for place in (232, 8, 40))
        by_place = papers_alone(51)
        wrong = [
            (None, card, seeks), (shown[1], card, seeks), (self.look[:2], card, seeks), (shown, None, seeks),
            (shown, list(card), seeks), (shown, ("b",) + card[1:], seeks), (shown, card[:1] + (5,) + card[2:], seeks),
            (shown, card[:1] + (7,) + card[2:], seeks), (shown, card[:2] + ("ben",) + card[3:], seeks),
            (shown, card[:3] + (None,), seeks), (shown, card[:3] + (card[3][:1],), seeks),
            (shown, card[:3] + (card[3] + (1,),), seeks), (shown, card, list(seeks)), (shown, card, None),
            (shown, card, seeks[:2]), (shown, card, seeks + seeks[:1]), (shown, card, (seeks[0], seeks[2], seeks[1])),
            (shown, card, (None,) + seeks[1:]), (shown, card, (seeks[0], seeks[1], seeks[2][:5])),
            (shown, card, seeks[:2] + by_ben[2:]), (shown, card, by_ben), (shown, card, by_one[:1] + seeks[1:]),
            (shown, card, by_place[:1] + seeks[1:]), (shown, card), (shown, card, seeks, seeks), [shown, card, seeks],
        ]
        for thing in wrong:
            self.assertIs(shows_put(thing), False, thing)
        self.assertEqual([shows_seek(one) for one in by_ben + by_one + by_place], [True] * 9)
        self.assertIs(shows_put((shown, card, papers_alone(50))), True)
        # Marks aren't believed to be any text's.
        self.assertIs(shows_put((shown, card[:3] + ((1, 2),), seeks)), True)

    def test_the_first_number_is_one(self):
        shown, card, seeks = put(self.net, "ada", "new", "x")[2]
        self.assertEqual((card[1], shows_put((shown, card, seeks))), (1, True))
        self.assertIs(shows_put((shown, ("new", 2) + card[2:], seeks)), False)
        self.assertIs(shows_put((shown, ("new", True) + card[2:], seeks)), False)

    def test_no_number_is_behind_the_last(self):
        give(self.net, "hal", card_of("a", 999999, "zoe"), [])
        shown = look(self.net, "ada", "a")[1]
        for number in (1000000, 999999, 1):
            card = ("a", number, "ada", ())
            self.assertIs(shows_put((shown, card, (seek(self.net, "ada", 232)[1],))), False)

    def test_seeks_behind_the_look_may_pass_over_others(self):
        self.net.lie("gil", "steps")
        for _ in range(2):
            self.net.peer_here("ada").saw("gil")
        paper = put(self.net, "ada", "a", "x")[2]
        self.assertEqual((paper[0][1][4], paper[2][0][4]), ((), ("gil",)))
        self.assertIs(shows_put(paper), True)


def papers_alone(own):
    """The papers of seeks by one that is alone at a place."""
    papers = []
    for place in (232, 8, 40):
        papers.append(("ada", own, place, 2, (), (
            ("step", "ada", False, (), ("mine", "ada", own)), ("keepers", "ada", (), (("ada", own),)),
            ("called", "ada", True))))
    return tuple(papers)


if __name__ == "__main__":
    unittest.main()
