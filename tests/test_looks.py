"""Points 71 to 76: seeks of a place's keepers, looks for cards, puts of texts."""

import inspect
import itertools
import unittest

from peersmeet import looks
from peersmeet.errors import Down, NoName, NoNet, NoPeer, NoPlace, NoText, TooMany
from peersmeet.looks import look, put, seek
from peersmeet.marks import is_name, is_place, is_text
from peersmeet.nets import Net
from peersmeet.things import card_of, card_places, pieces_of
from tests.refusals import RefusalCase
from tests.test_nets import CARD, PLACES, TEXT, give, net_of_peers

ALL = tuple(PLACES)


def step(asked, arrived, without, told):
    return ("step", asked, arrived, tuple(without), told)


def on(name):
    return ("on", name, PLACES[name])


def mine(name):
    return ("mine", name, PLACES[name])


def keepers(teller, silent, *names):
    return ("keepers", teller, tuple(silent), tuple((name, PLACES[name]) for name in names))


def calls(*names):
    return tuple(("called", name, True) for name in names)


class LookCase(RefusalCase):
    def setUp(self):
        # Round: eve 10, fay 20, ada 50, dan 100, ben 150, gil 200, cy 240, hal 255.
        self.net = net_of_peers(*ALL)

    def stays(self, call, *things):
        """A refused call changes nothing, deeds and logs neither."""
        ahead = self.net.copied()
        self.refusal(call, *things)
        self.same(ahead)

    def same(self, ahead):
        self.assertEqual((self.net, self.net.deeds()), (ahead, ahead.deeds()))
        for name in ahead.names():
            self.assertEqual(self.net.peer(name).log(), ahead.peer(name).log())


class Seeks(LookCase):
    def seek(self, asker, place):
        """What a seek tells; its paper has the head that it must have, and only the asker's wrongs change."""
        ahead = self.net.copied()
        names, paper = seek(self.net, asker, place)
        self.assertIs(type(names), list)
        own = ahead.peer(asker).place()
        passed = tuple(name for name in ahead.names() if ahead.peer(asker).passes_over(name))
        self.assertEqual(paper[:5], (asker, own, place, ahead.copies(), passed))
        self.assertIs(type(paper[5]), tuple)
        for name in ahead.names():
            self.assertEqual(self.net.peer(name).known(), ahead.peer(name).known())
            if name != asker:
                self.assertEqual(self.net.peer(name).log(), ahead.peer(name).log())
        self.assertEqual(self.net.deeds(), ahead.deeds() + [("seek", asker, place)])
        return names, paper[5]

    def test_names_and_arguments(self):
        forms = {seek: "(net, asker, place)", look: "(net, asker, key)", put: "(net, asker, key, text)"}
        for call, form in forms.items():
            self.assertEqual((str(inspect.signature(call)), call.__module__), (form, looks.__name__))

    def test_steps_until_one_tells_mine_and_keepers_are_called(self):
        names, rows = self.seek("ada", 235)
        self.assertEqual(names, ["cy", "hal"])
        self.assertEqual(rows, (
            step("ada", False, [], on("gil")), step("gil", False, [], on("cy")), step("cy", True, [], mine("cy")),
            keepers("cy", [], "cy", "hal")) + calls("cy", "hal"))

    def test_the_asker_keeps_the_place(self):
        names, rows = self.seek("ada", 21)
        self.assertEqual((names, rows), (["ada", "dan"], (
            step("ada", False, [], mine("ada")), keepers("ada", [], "ada", "dan")) + calls("ada", "dan")))
        alone = net_of_peers("ada", copies=4)
        names, paper = seek(alone, "ada", 60)
        self.assertEqual((names, paper), (["ada"], ("ada", 50, 60, 4, (), (
            step("ada", False, [], mine("ada")), keepers("ada", [], "ada"), ("called", "ada", True)))))

    def test_as_many_keepers_as_copies(self):
        for copies in (1, 2, 3, 4):
            net = net_of_peers("ada", "ben", "cy", copies=copies)
            self.assertEqual(seek(net, "ben", 151)[0], ["cy", "ada", "ben"][:copies])

    def test_one_that_does_not_answer_is_left_out_and_silent(self):
        for deed in (lambda: self.net.stop("gil"), lambda: self.net.lie("gil", "silence"),
                     lambda: self.net.cut([["gil"], [name for name in ALL if name != "gil"]])):
            self.setUp()
            deed()
            names, rows = self.seek("ada", 235)
            self.assertEqual(names, ["cy", "hal"])
            self.assertEqual(rows, (
                step("ada", False, [], on("gil")), step("gil", False, [], None),
                step("ada", False, ["gil"], on("ben")), step("ben", False, ["gil"], on("cy")),
                step("cy", True, ["gil"], mine("cy")), keepers("cy", ["gil"], "cy", "hal")) + calls("cy", "hal"))
            self.assertEqual(self.net.peer("ada").wrongs(), {})

    def test_one_that_lies_by_steps_is_left_out_and_a_wrong_is_seen(self):
        self.net.lie("gil", "steps")
        names, rows = self.seek("ada", 235)
        self.assertEqual(names, ["cy", "hal"])
        self.assertEqual(rows, (
            step("ada", False, [], on("gil")), step("gil", False, [], on("gil")),
            step("ada", False, ["gil"], on("ben")), step("ben", False, ["gil"], on("cy")),
            step("cy", True, ["gil"], mine("cy")), keepers("cy", [], "cy", "hal")) + calls("cy", "hal"))
        self.assertEqual(self.net.peer("ada").wrongs(), {"gil": (1, 5)})

    def test_who_told_of_one_that_is_left_out_is_asked_again_as_ahead(self):
        self.net.stop("cy")
        self.net.lie("hal", "steps")
        names, rows = self.seek("ada", 235)
        self.assertEqual(rows, (
            step("ada", False, [], on("gil")), step("gil", False, [], on("cy")), step("cy", True, [], None),
            step("gil", False, ["cy"], on("hal")), step("hal", True, ["cy"], on("hal")),
            step("gil", False, ["cy", "hal"], on("eve")), step("eve", True, ["cy", "hal"], mine("eve")),
            keepers("eve", ["cy"], "hal", "eve")) + calls("hal", "eve"))
        # Who lies by steps is a keeper all the same.
        self.assertEqual(names, ["hal", "eve"])

    def test_two_in_a_row_are_left_out(self):
        self.net.stop("gil")
        self.net.stop("ben")
        rows = self.seek("ada", 235)[1]
        self.assertEqual(rows[:5], (
            step("ada", False, [], on("gil")), step("gil", False, [], None),
            step("ada", False, ["gil"], on("ben")), step("ben", False, ["gil"], None),
            step("ada", False, ["gil", "ben"], on("dan"))))

    def test_an_asker_that_lies_itself_tells_by_its_own_circle(self):
        for word in ("steps", "pieces"):
            self.net.lie("ada", word)
            self.assertEqual(self.seek("ada", 235)[0], ["cy", "hal"])
        self.net.lie("ada", "silence")
        names, rows = self.seek("ada", 235)
        self.assertEqual(rows[:2], (step("ada", False, [], on("gil")), step("gil", False, [], None)))
        self.assertEqual(rows[-1], ("called", "ada", True))
        self.assertEqual(names, ["ada"])

    def test_who_lies_by_pieces_tells_by_its_own_circle(self):
        self.net.lie("gil", "pieces")
        self.assertEqual(self.seek("ada", 235)[1][1], step("gil", False, [], on("cy")))

    def test_an_asker_that_passes_over_somebody(self):
        for name in ("hal", "gil"):
            for _ in range(3):
                self.net.peer_here("ada").saw(name)
        self.net.peer_here("ada").saw("ben")
        names, rows = self.seek("ada", 235)
        self.assertEqual(rows, (
            step("ada", False, ["gil", "hal"], on("ben")), step("ben", False, ["gil", "hal"], on("cy")),
            step("cy", True, ["gil", "hal"], mine("cy")), keepers("cy", [], "cy", "hal")) + calls("cy", "hal"))
        self.assertEqual(names, ["cy", "hal"])

    def test_third_wrong_of_one_that_lies(self):
        self.net.lie("gil", "steps")
        told = [self.seek("ada", 235)[1] for _ in range(4)]
        self.assertEqual([step("gil", False, [], on("gil")) in rows for rows in told], [True, True, True, False])
        self.assertEqual(self.net.peer("ada").wrongs(), {"gil": (3, 5)})

    def test_an_asker_does_not_pass_over_itself(self):
        for _ in range(3):
            self.net.peer_here("ada").saw("ada")
        paper = seek(self.net, "ada", 235)[1]
        self.assertEqual((paper[4], paper[5][0]), ((), step("ada", False, [], on("gil"))))

    def test_a_way_that_arrived_goes_back(self):
        # Round: ada 50, ben 150, dan 236, cy 240; just cy knows dan as here.
        net = Net(2)
        net.begin("ada", 50)
        for name, place in (("ben", 150), ("cy", 240), ("dan", 236)):
            net.enter(name, "ada", place)
        net.peer_here("ada").silent("dan")
        net.peer_here("ben").silent("dan")
        told = ("dan", 236)
        names, paper = seek(net, "ada", 235)
        self.assertEqual(paper[5], (
            step("ada", False, [], on("ben")), step("ben", False, [], on("cy")),
            step("cy", True, [], ("back", "dan", 236)), step("dan", True, [], ("mine", "dan", 236)),
            ("keepers", "dan", (), (told, ("cy", 240))), ("called", "dan", True), ("called", "cy", True)))
        self.assertEqual(names, ["dan", "cy"])
        net.stop("dan")
        names, paper = seek(net, "ada", 235)
        self.assertEqual(paper[5][2:], (
            step("cy", True, [], ("back", "dan", 236)), step("dan", True, [], None),
            step("cy", True, ["dan"], mine("cy")), ("keepers", "cy", ("dan",), (("cy", 240), ("ada", 50))),
            ("called", "cy", True), ("called", "ada", True)))

    def test_a_keeper_that_does_not_answer_and_keepers_asked_for_again(self):
        self.net.stop("hal")
        names, rows = self.seek("ada", 235)
        self.assertEqual(rows[3:], (
            keepers("cy", [], "cy", "hal"), ("called", "cy", True), ("called", "hal", False),
            keepers("cy", ["hal"], "cy", "eve"), ("called", "eve", True)))
        self.assertEqual(names, ["cy", "eve"])

    def test_silent_names_as_they_came(self):
        for name in ("hal", "gil", "eve"):
            self.net.stop(name)
        names, rows = self.seek("ada", 235)
        self.assertEqual(rows[5:], (
            keepers("cy", ["gil"], "cy", "hal"), ("called", "cy", True), ("called", "hal", False),
            keepers("cy", ["gil", "hal"], "cy", "eve"), ("called", "eve", False),
            keepers("cy", ["gil", "hal", "eve"], "cy", "fay"), ("called", "fay", True)))
        self.assertEqual(names, ["cy", "fay"])

    def test_keepers_are_told_with_who_is_left_out_but_not_silent(self):
        self.net.lie("cy", "steps")
        names, rows = self.seek("ada", 235)
        self.assertEqual(rows[1:], (
            step("gil", False, [], on("cy")), step("cy", True, [], on("cy")), step("gil", False, ["cy"], on("hal")),
            step("hal", True, ["cy"], mine("hal")), keepers("hal", [], "cy", "hal")) + calls("cy", "hal"))
        self.assertEqual(names, ["cy", "hal"])

    def test_fewer_that_answer_than_copies(self):
        net = self.net = net_of_peers("ada", "ben", "cy", copies=4)
        net.stop("cy")
        self.assertEqual(seek(net, "ada", 235)[0], ["ada", "ben"])
        net.stop("ben")
        self.assertEqual(seek(net, "ada", 235)[0], ["ada"])

    def test_a_net_that_is_cut(self):
        self.net.cut([["ada", "ben", "cy", "dan"], ["eve", "fay", "gil", "hal"]])
        self.assertEqual(self.seek("ada", 235)[0], ["cy", "ada"])
        self.assertEqual(self.seek("eve", 235)[0], ["hal", "eve"])
        self.assertEqual(self.seek("gil", 51)[0], ["gil", "hal"])

    def test_refused_in_the_order_of_the_interface(self):
        self.refuses_all_but(NoNet, lambda thing: isinstance(thing, Net), lambda thing: seek(thing, None, None))
        self.refuses_all_but(NoPeer, self.net.has, lambda thing: seek(self.net, thing, 256))
        self.net.stop("ben")
        self.refuses_all_but(NoPlace, is_place, lambda thing: seek(self.net, "ben", thing))
        self.refused_with(Down, {"found": "ben"}, seek, self.net, "ben", 0)
        self.net.leave("cy")
        self.refused_with(Down, {"found": "cy"}, seek, self.net, "cy", 0)
        for things in ((None, 0), ("zoe", 0), ("ada", 256), ("ben", 0)):
            self.stays(seek, self.net, *things)


class Looks(LookCase):
    def test_the_greatest_card_of_the_found(self):
        one, other = card_of("a", 1, "zoe", text="old"), card_of("a", 2, "ada", text="new")
        # The card of `a` is kept at 232, by cy and hal.
        for cards in ((one, other), (other, one), (other, other), (None, one), (one, None), (None, None)):
            self.setUp()
            for name, card in zip(("cy", "hal"), cards):
                if card is not None:
                    give(self.net, name, card, [])
            ahead = self.net.copied()
            self.assertEqual(look(self.net, "ada", "a"), (
                other if other in cards else one if one in cards else None,
                ("a", seek(ahead, "ada", 232)[1], (("cy", cards[0]), ("hal", cards[1])))))
            self.assertEqual(self.net.deeds()[8:], [("look", "ada", "a")])

    def test_a_key_that_nobody_has_or_that_just_others_have(self):
        self.assertIsNone(look(self.net, "ada", "a")[0])
        give(self.net, "ada", CARD, [])
        self.assertIsNone(look(self.net, "ada", "a")[0])

    def test_a_key_that_was_taken_away(self):
        give(self.net, "hal", card_of("a", 1, "z", text="x"), [])
        away = card_of("a", 2, "me")
        give(self.net, "cy", away, [])
        self.assertEqual(look(self.net, "gil", "a")[0], away)

    def test_a_look_that_sees_a_wrong(self):
        self.net.lie("gil", "steps")
        look(self.net, "ada", "a")
        self.assertEqual(self.net.peer("ada").wrongs(), {"gil": (1, 5)})
        self.assertEqual(self.net.deeds()[8:], [("lie", "gil", "steps"), ("look", "ada", "a")])

    def test_refused_in_the_order_of_the_interface(self):
        self.refuses_all_but(NoNet, lambda thing: isinstance(thing, Net), lambda thing: look(thing, None, None))
        self.refuses_all_but(NoPeer, self.net.has, lambda thing: look(self.net, thing, ""))
        self.net.stop("ben")
        self.refuses_all_but(NoName, is_name, lambda thing: look(self.net, "ben", thing))
        self.refused_with(Down, {"found": "ben"}, look, self.net, "ben", "a")
        for things in (("zoe", "a"), ("ada", "A"), ("ben", "a")):
            self.stays(look, self.net, *things)


class Puts(LookCase):
    def has(self, name, key="a"):
        return self.net.peer(name).card(key)

    def test_a_text_is_handed_to_its_keepers(self):
        ahead = self.net.copied()
        card, names, paper = put(self.net, "ada", "a", TEXT)
        self.assertEqual(card, card_of("a", 1, "ada", text=TEXT))
        self.assertEqual(names, sorted(ALL))
        look_paper = look(ahead, "ada", "a")[1]
        seeks = tuple(seek(ahead, "ada", place)[1] for place in card_places(card))
        self.assertEqual(paper, (look_paper, card, seeks))
        for name in ALL:
            self.assertEqual(self.has(name), card)
        # The pieces lie at 8, 40, 72, 104, 136, 168, 200 and 232.
        had = {"eve": [0], "fay": [0], "ada": [1], "dan": [1, 2], "ben": [2, 3, 4], "gil": [3, 4, 5, 6],
               "cy": [5, 6, 7], "hal": [7]}
        for name, numbers in had.items():
            self.assertEqual(self.net.peer(name).pieces("a"), {at: pieces_of(TEXT)[at] for at in numbers})
        self.assertEqual(self.net.deeds()[8:], [("put", "ada", "a", TEXT)])
        self.assertIs(self.net.go_round(), False)

    def test_short_texts_and_what_is_taken_away(self):
        for text, names in (("", ["cy", "hal"]), ("x", ["cy", "eve", "fay", "hal"]), (None, ["cy", "hal"])):
            self.setUp()
            card, told, paper = put(self.net, "ada", "a", text)
            self.assertEqual((card, told), (card_of("a", 1, "ada", text=text), names))
            self.assertEqual(len(paper[2]), len(card_places(card)))
            self.assertEqual([name for name in sorted(ALL) if self.has(name)], names)
            self.assertEqual(self.net.deeds()[8:], [("put", "ada", "a", text)])

    def test_the_number_is_one_above_that_of_the_told_card(self):
        numbers = [put(self.net, name, "a", text)[0][:3] for name, text in
                   (("ada", "one"), ("ben", None), ("cy", "three"), ("ada", "three"))]
        self.assertEqual(numbers, [("a", 1, "ada"), ("a", 2, "ben"), ("a", 3, "cy"), ("a", 4, "ada")])
        self.assertEqual(look(self.net, "dan", "a")[0], card_of("a", 4, "ada", text="three"))
        give(self.net, "hal", card_of("b", 999998, "z"), [])
        give(self.net, "eve", card_of("b", 999998, "z"), [])
        self.assertEqual(put(self.net, "ada", "b", "")[0][1], 999999)

    def test_a_number_beyond_is_refused_behind_the_look(self):
        self.net.lie("gil", "steps")
        give(self.net, "hal", card_of("a", 999999, "b", text="x"), [])
        ahead = self.net.copied()
        self.refused_with(TooMany, {"many": 1000000}, put, self.net, "ada", "a", "text")
        self.assertEqual(self.net.deeds(), ahead.deeds())
        # The look was made alone, and saw a wrong.
        self.assertEqual(self.net.peer("ada").wrongs(), {"gil": (1, 5)})
        look(ahead, "ada", "a")
        self.assertEqual(self.net, ahead)
        for key, text in (("a", None), ("a", "")):
            self.refused_with(TooMany, {"many": 1000000}, put, self.net, "hal", key, text)

    def test_a_greater_card_that_another_one_put_meanwhile_stays(self):
        net = self.net
        # The card of `a` is kept by cy and hal, its first piece by eve and fay.
        meanwhile = card_of("a", 1, "zoe", text="zzz")
        give(net, "eve", meanwhile, [0], "zzz")
        card, names, _ = put(net, "ada", "a", "abc")
        self.assertEqual((card[1], names), (1, ["cy", "fay", "hal"]))
        self.assertEqual((self.has("eve"), net.peer("eve").pieces("a")), (meanwhile, {0: "zzz"}))
        self.assertEqual((self.has("fay"), net.peer("fay").pieces("a")), (card, {0: "abc"}))

    def test_a_lesser_card_and_its_pieces_are_no_more(self):
        net = self.net
        elder = card_of("a", 1, "aa", text="old")
        give(net, "eve", elder, [0], "old")
        card, names, _ = put(net, "ada", "a", "new")
        self.assertEqual(names, ["cy", "eve", "fay", "hal"])
        self.assertEqual((self.has("eve"), net.peer("eve").pieces("a")), (card, {0: "new"}))

    def test_one_and_the_same_card_of_unlike_texts(self):
        net = self.net
        give(net, "eve", card_of("a", 1, "ada", text="bdb"), [0], "bdb")
        card, names, _ = put(net, "ada", "a", "cbc")
        self.assertEqual(names, ["cy", "eve", "fay", "hal"])
        self.assertEqual([net.peer(name).pieces("a") for name in ("eve", "fay")], [{0: "bdb"}, {0: "cbc"}])

    def test_wrongs_of_all_seeks_are_seen(self):
        self.net.lie("gil", "steps")
        # The look and the seek of the card's place see one each.
        paper = put(self.net, "ada", "a", "")[2]
        self.assertEqual(self.net.peer("ada").wrongs(), {"gil": (2, 5)})
        self.assertEqual([one[4] for one in (paper[0][1],) + paper[2]], [(), ()])
        # The look sees the third one, and the seeks behind it pass over gil.
        paper = put(self.net, "ada", "a", "x" * 16)[2]
        self.assertEqual(self.net.peer("ada").wrongs(), {"gil": (3, 5)})
        self.assertEqual([one[2] for one in paper[2]], [232, 8, 40])
        self.assertEqual([one[4] for one in (paper[0][1],) + paper[2]], [(), ("gil",), ("gil",), ("gil",)])

    def test_a_net_that_is_cut(self):
        self.net.cut([["ada", "ben", "cy", "dan"], ["eve", "fay", "gil", "hal"]])
        self.assertEqual(put(self.net, "ada", "a", "left")[1], ["ada", "cy", "dan"])
        self.assertEqual(put(self.net, "eve", "a", "right")[1], ["eve", "fay", "hal"])
        self.assertEqual(look(self.net, "ben", "a")[0], card_of("a", 1, "ada", text="left"))
        self.assertEqual(look(self.net, "fay", "a")[0], card_of("a", 1, "eve", text="right"))
        self.net.heal()
        self.net.rest()
        self.assertEqual(look(self.net, "ben", "a")[0], card_of("a", 1, "eve", text="right"))

    def test_refused_in_the_order_of_the_interface(self):
        net = self.net
        self.refuses_all_but(NoNet, lambda thing: isinstance(thing, Net), lambda thing: put(thing, None, None, 0))
        self.refuses_all_but(NoPeer, net.has, lambda thing: put(net, thing, "", 0))
        net.stop("ben")
        self.refuses_all_but(NoName, is_name, lambda thing: put(net, "ben", thing, 0))
        self.refuses_all_but(NoText, lambda thing: thing is None or is_text(thing),
                             lambda thing: put(net, "ben", "a", thing))
        for text in (None, "", "x" * 60):
            self.refused_with(Down, {"found": "ben"}, put, net, "ben", "a", text)
        for things in (("zoe", "a", ""), ("ada", "A", ""), ("ben", "a", ""), ("ada", "a", "x" * 61)):
            self.stays(put, net, *things)

    def test_down_goes_ahead_of_too_many(self):
        give(self.net, "hal", card_of("a", 999999, "b"), [])
        self.net.stop("ben")
        self.refused_with(Down, {"found": "ben"}, put, self.net, "ben", "a", "")


class Told(LookCase):
    def test_what_is_told_may_be_changed(self):
        names = seek(self.net, "ada", 235)[0]
        names.clear()
        self.assertEqual(seek(self.net, "ada", 235)[0], ["cy", "hal"])
        put(self.net, "ada", "a", "x")[1].clear()
        self.assertEqual(put(self.net, "ada", "a", "x")[1], ["cy", "eve", "fay", "hal"])

    def test_papers_are_tuples_through_and_through(self):
        def look_at(thing):
            self.assertNotIsInstance(thing, (list, dict))
            for part in thing if isinstance(thing, tuple) else ():
                look_at(part)
        self.net.lie("gil", "steps")
        self.net.stop("hal")
        for paper in (seek(self.net, "ada", 235)[1], look(self.net, "ada", "a")[1], put(self.net, "ada", "a", TEXT)[2]):
            look_at(paper)

    def test_the_same_question_has_an_equal_answer(self):
        for asker, place in itertools.product(ALL, range(0, 256, 5)):
            self.assertEqual(seek(self.net, asker, place), seek(self.net, asker, place))


if __name__ == "__main__":
    unittest.main()
