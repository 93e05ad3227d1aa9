"""Points 81 to 85: pieces of a card, asked turn by turn of those who claim to have them."""

import copy
import inspect
import random
import unittest

from peersmeet import fetches
from peersmeet.errors import Lacks, NoCard, NoList, NotThere, TooMany, WrongPiece
from peersmeet.fetches import Fetch
from peersmeet.things import card_of, is_card, pieces_of
from tests.refusals import RefusalCase, any_things

TEXT = "11111111222222223333333344444444555555556666666677777777abcd"
CARD = card_of("a", 5, "ada", text=TEXT)
PIECES = pieces_of(TEXT)
SHORT = card_of("a", 1, "ada", text=TEXT[:20])


class FetchCase(RefusalCase):
    def give(self, name, at):
        return PIECES[at]

    def short(self, claims, **named):
        """A fetch of a card with the pieces 0, 1 and 2."""
        return Fetch(card_of("a", 1, "ada", text=TEXT[:24]), claims, **named)

    def state(self, fetch):
        return (fetch.asks(), fetch.rows(), fetch.lacking(), fetch.turns(), fetch.in_turn(), fetch.ended(),
                fetch.asked(), fetch.wrongs())

    def stays(self, fetch, kind, fields, call, *things):
        ahead = self.state(fetch)
        self.refused_with(kind, fields, call, *things)
        self.assertEqual(self.state(fetch), ahead)


class Made(FetchCase):
    def test_names_and_methods_of_its_own(self):
        told = {"__init__": "(self, card, claims, *, had=None, seen=None)", "take": "(self, name, at, answer)",
                "turn": "(self, give)"}
        alone = "asks rows lacking turns in_turn ended asked wrongs text"
        told.update({name: "(self)" for name in alone.split()})
        for name, form in told.items():
            self.assertEqual(str(inspect.signature(vars(Fetch)[name])), form)
        self.assertEqual(Fetch.__module__, fetches.__name__)
        self.assertIsInstance(repr(Fetch(CARD, {})), str)

    def test_a_card_without_pieces(self):
        fetch = Fetch(card_of("a", 1, "ada", text=""), {"ben": []})
        self.assertEqual(self.state(fetch), ([], [], [], 0, False, True, {"ben": 0}, {"ben": 0}))
        self.assertEqual((fetch.text(), fetch.turn(self.give), fetch.turns()), ("", 0, 0))

    def test_nobody_claims(self):
        fetch = Fetch(CARD, {})
        self.assertEqual(self.state(fetch), ([], [], list(range(8)), 0, False, True, {}, {}))
        self.refused_with(Lacks, {"found": list(range(8))}, fetch.text)

    def test_all_is_had(self):
        fetch = Fetch(CARD, {"ben": [0, 1]}, had=dict(enumerate(PIECES)))
        self.assertEqual((fetch.ended(), fetch.text(), fetch.lacking()), (True, TEXT, []))

    def test_what_is_handed_in_stays_and_is_not_in_common(self):
        claims, had, seen = {"ben": [0, 2], "cy": (1,)}, {1: PIECES[1]}, {"cy": 2}
        fetch = self.short(claims, had=had, seen=seen)
        self.assertEqual((claims, had, seen), ({"ben": [0, 2], "cy": (1,)}, {1: PIECES[1]}, {"cy": 2}))
        claims["ben"].clear()
        claims.clear()
        had.clear()
        seen["ben"] = 3
        self.assertEqual((fetch.asks(), fetch.lacking()), ([("ben", 0)], [0, 2]))
        fetch.take("ben", 0, PIECES[0])
        fetch.take("ben", 2, PIECES[2])
        self.assertEqual((had, fetch.text()), ({}, TEXT[:24]))

    def test_what_is_told_may_be_changed(self):
        fetch = self.short({"ben": [0, 2], "cy": [1]})
        fetch.take("ben", 0, PIECES[0])
        ahead = copy.deepcopy(self.state(fetch))
        for told in (fetch.asks(), fetch.rows(), fetch.lacking(), fetch.asked(), fetch.wrongs()):
            told.clear()
        self.assertEqual(self.state(fetch), ahead)


class Refused(FetchCase):
    def test_no_card(self):
        self.refuses_all_but(NoCard, lambda thing: is_card(thing) and thing[3] is not None,
                             lambda thing: Fetch(thing, None, had=1, seen=1))
        away = card_of("a", 1, "ada")
        self.refused(NoCard, away, Fetch, away, {})

    def test_no_claims(self):
        wrong = any_things() + [
            {"Ben": []}, {5: [0]}, {None: []}, {"ben": [1, 0]}, {"ben": [0, 0]}, {"ben": [0, 3]}, {"ben": [-1]},
            {"ben": [True]}, {"ben": ["0"]}, {"ben": 0}, {"ben": None}, {"ben": {0: 1}}, {"ben": [0], "cy": [3]},
            {"ben": [[0]]}, {"ben": "0"}, {name: [0] for name in "abcdefghi"}, [("ben", [0])], {"ben": [0, None]},
        ]
        for claims in wrong:
            if claims != {}:
                self.refused(NoList, claims, Fetch, SHORT, claims, had=1, seen=1)
        Fetch(SHORT, {name: [0, 1, 2] for name in "abcdefgh"})
        Fetch(SHORT, {"ben": (0, 2), "cy": [], "dan": ()})

    def test_no_dict_of_what_is_had(self):
        wrong = any_things() + [
            {3: "x"}, {-1: "x"}, {True: PIECES[1]}, {"0": PIECES[0]}, {None: "x"}, {0: None}, {0: 5}, {0: [PIECES[0]]},
            {0: "wrong", 3: "x"}, {0: "wrong", 1: None}, [PIECES[0]],
        ]
        for had in wrong:
            if had is not None and had != {}:
                self.refused(NoList, had, Fetch, SHORT, {}, had=had, seen=1)

    def test_what_is_had_does_not_fit(self):
        for had, at in (({0: "wrong"}, 0), ({2: "x", 0: "x"}, 2), ({0: PIECES[0], 1: PIECES[0], 2: ""}, 1),
                        ({1: PIECES[1], 2: PIECES[2]}, 2), ({0: PIECES[0] + "1"}, 0), ({0: "x" * 61}, 0), ({0: "\n"}, 0)):
            self.refused_with(WrongPiece, {"at": at}, Fetch, SHORT, {}, had=had, seen=1)

    def test_no_dict_of_what_was_seen(self):
        wrong = any_things() + [{"Ben": 1}, {"ben": -1}, {"ben": True}, {"ben": "1"}, {"ben": None}, {5: 1},
                                {"ben": 1, "cy": None}, [("ben", 1)]]
        for seen in wrong:
            if seen is not None and seen != {} and seen != {"a": 1}:
                self.refused(NoList, seen, Fetch, SHORT, {}, had={}, seen=seen)
        Fetch(SHORT, {}, had={}, seen={"ben": 0, "cy": 10 ** 29})


class Asks(FetchCase):
    def asked_by(self, fetch):
        """What is asked for turn by turn, all answers being right."""
        turns = []
        while not fetch.ended():
            turns.append(fetch.asks())
            fetch.turn(self.give)
        return turns

    def test_fewest_claims_first_then_the_lesser_number(self):
        fetch = self.short({"ben": [0, 1, 2], "cy": [0, 1], "dan": [0]})
        self.assertEqual(fetch.asks(), [("ben", 2), ("cy", 1), ("dan", 0)])
        fetch = self.short({"ben": [0, 1, 2], "cy": [1, 2], "dan": [0]})
        self.assertEqual(fetch.asks(), [("ben", 0), ("cy", 1)])

    def test_each_is_asked_for_no_other_one_in_a_turn(self):
        self.assertEqual(self.asked_by(self.short({"ben": [0, 1, 2]})), [[("ben", 0)], [("ben", 1)], [("ben", 2)]])
        self.assertEqual(self.asked_by(self.short({"ben": [0, 1, 2], "cy": [2]})), [
            [("ben", 0), ("cy", 2)], [("ben", 1)]])
        # Where all who claim a piece are asked for others it isn't asked for.
        self.assertEqual(self.asked_by(self.short({"ben": [0, 1, 2], "cy": [0, 1, 2]})), [
            [("ben", 0), ("cy", 1)], [("ben", 2)]])

    def test_of_who_was_asked_least_often_ahead(self):
        fetch = Fetch(CARD, {"ben": [0, 1, 2, 3], "cy": [2, 3], "dan": [3, 4]})
        self.assertEqual(self.asked_by(fetch), [
            [("ben", 0), ("dan", 4), ("cy", 2)], [("ben", 1), ("cy", 3)]])
        fetch = Fetch(CARD, {"ben": [0, 1, 2], "cy": [2]}, had=dict(list(enumerate(PIECES))[3:]))
        self.assertEqual(fetch.asks(), [("ben", 0), ("cy", 2)])
        fetch.take("ben", 0, PIECES[0])
        fetch.take("cy", 2, "wrong")
        # cy's claim is struck; ben is asked for both that lack.
        self.assertEqual(self.asked_by(fetch), [[("ben", 1)], [("ben", 2)]])

    def test_least_often_goes_ahead_of_the_claims_order(self):
        fetch = Fetch(SHORT, {"ben": [0, 1], "cy": [1], "dan": [1]}, had={2: PIECES[2][:4]})
        self.assertEqual(fetch.asks(), [("ben", 0), ("cy", 1)])
        fetch.take("ben", 0, PIECES[0])
        fetch.take("cy", 1, None)
        self.assertEqual(fetch.asks(), [("dan", 1)])
        fetch = Fetch(SHORT, {"dan": [1], "ben": [0, 1], "cy": [1]}, had={2: PIECES[2][:4]})
        self.assertEqual(fetch.asks(), [("ben", 0), ("dan", 1)])

    def test_the_claims_order_is_not_that_of_names(self):
        self.assertEqual(self.short({"zoe": [1], "ada": [1]}).asks(), [("zoe", 1)])
        self.assertEqual(self.short({"ada": [1], "zoe": [1]}).asks(), [("ada", 1)])

    def test_what_is_had_is_not_asked_for(self):
        self.assertEqual(self.short({"ben": [0, 1, 2], "cy": [0]}, had={0: PIECES[0]}).asks(), [("ben", 1)])

    def test_those_that_are_not_answered_are_told_in_order(self):
        fetch = self.short({"ben": [0], "cy": [1], "dan": [2]})
        fetch.take("cy", 1, PIECES[1])
        self.assertEqual((fetch.asks(), fetch.turns(), fetch.ended()), ([("ben", 0), ("dan", 2)], 0, False))
        fetch.take("dan", 2, "wrong")
        self.assertEqual(fetch.asks(), [("ben", 0)])
        fetch.take("ben", 0, PIECES[0])
        self.assertEqual((fetch.asks(), fetch.turns(), fetch.ended()), ([], 1, True))
        self.assertEqual(fetch.lacking(), [2])

    def test_claims_that_are_struck_do_not_count(self):
        fetch = Fetch(CARD, {"ben": [0, 1, 2], "cy": [0, 1, 2], "dan": [1, 2]}, had=dict(list(enumerate(PIECES))[3:]))
        self.assertEqual(fetch.asks(), [("ben", 0), ("cy", 1), ("dan", 2)])
        fetch.take("ben", 0, PIECES[0])
        fetch.take("cy", 1, "wrong")
        fetch.take("dan", 2, "wrong")
        # Of two claims each: the lesser number first, of the first in the claims' order.
        self.assertEqual(fetch.asks(), [("ben", 1), ("cy", 2)])
        fetch.take("cy", 2, "wrong")
        fetch.take("ben", 1, "wrong")
        self.assertEqual(fetch.asks(), [("dan", 1), ("ben", 2)])

    def test_names_that_were_seen_three_times_ahead(self):
        claims = {"ben": [0, 1], "cy": [0, 2]}
        self.assertEqual(self.short(claims, seen={"ben": 2, "zoe": 9}).asks(), [("ben", 1), ("cy", 2)])
        fetch = self.short(claims, seen={"ben": 3})
        self.assertEqual(fetch.asks(), [("cy", 0)])
        self.assertEqual(self.asked_by(fetch), [[("cy", 0)], [("cy", 2)]])
        self.assertTrue(self.short(claims, seen={"ben": 4, "cy": 3}).ended())

    def test_wrong_pieces_ahead_and_since_count_together(self):
        for ahead in range(4):
            fetch = Fetch(CARD, {"ben": list(range(8))}, seen={"ben": ahead})
            many = 0
            while not fetch.ended():
                self.assertEqual(fetch.turn(lambda name, at: "wrong"), 0)
                many += 1
            self.assertEqual((many, fetch.wrongs()), (3 - ahead, {"ben": 3 - ahead}))


class Answers(FetchCase):
    def test_what_fits_is_right(self):
        fetch = self.short({"ben": [0, 1]})
        self.assertEqual(fetch.take("ben", 0, PIECES[0]), "right")
        self.assertEqual((fetch.lacking(), fetch.asks(), fetch.wrongs()), ([1, 2], [("ben", 1)], {"ben": 0}))
        self.assertEqual(fetch.rows(), [(0, "ben", 0, PIECES[0], "right")])

    def test_none_strikes_all_claims(self):
        fetch = self.short({"ben": [0, 1, 2], "cy": [2]})
        self.assertEqual(fetch.asks(), [("ben", 0), ("cy", 2)])
        self.assertEqual(fetch.take("ben", 0, None), "silent")
        self.assertEqual(fetch.take("cy", 2, None), "silent")
        self.assertEqual((fetch.asks(), fetch.lacking(), fetch.ended()), ([], [0, 1, 2], True))
        self.assertEqual((fetch.asked(), fetch.wrongs()), ({"ben": 1, "cy": 1}, {"ben": 0, "cy": 0}))
        self.refused_with(Lacks, {"found": [0, 1, 2]}, fetch.text)

    def test_any_other_thing_is_wrong_and_strikes_this_claim(self):
        for thing in any_things() + ["wrong", PIECES[0], PIECES[1] + " "]:
            if thing is None:
                continue
            fetch = self.short({"ben": [1, 2]})
            self.assertEqual(fetch.take("ben", 1, thing), "wrong")
            self.assertEqual((fetch.asks(), fetch.wrongs(), fetch.lacking()), ([("ben", 2)], {"ben": 1}, [0, 1, 2]))
            self.assertIs(fetch.rows()[0][3], thing)

    def test_a_third_wrong_one(self):
        fetch = Fetch(CARD, {"ben": [0, 1, 2, 3], "cy": [4]})
        for at in range(3):
            self.assertIn(("ben", at), fetch.asks())
            fetch.turn(lambda name, one: None if name == "cy" else "wrong")
        self.assertEqual((fetch.asks(), fetch.wrongs(), fetch.asked()), ([], {"ben": 3, "cy": 0}, {"ben": 3, "cy": 1}))
        self.assertEqual(fetch.lacking(), list(range(8)))

    def test_the_last_piece_of_fewer_signs(self):
        fetch = Fetch(SHORT, {"ben": [2]})
        self.assertEqual(fetch.take("ben", 2, PIECES[2][:4]), "right")

    def test_not_there(self):
        fetch = self.short({"ben": [1, 2], "cy": [0, 1]})
        self.assertEqual(fetch.asks(), [("cy", 0), ("ben", 2)])
        for name, at in (("ben", 1), ("ben", 0), ("cy", 1), ("cy", 2), ("dan", 0), ("cy", False), ("cy", "0"), (0, "cy")):
            self.stays(fetch, NotThere, {"found": (name, at)}, fetch.take, name, at, PIECES[0])
        for thing in any_things():
            for things in ((thing, 0), ("cy", thing), (thing, thing)):
                if things == ("cy", 0) and thing is not False:
                    continue
                error = self.refusal(fetch.take, *things, None)
                self.assertIs(type(error), NotThere)
                self.assertIs(type(error.found), tuple)
                self.assertEqual(len(error.found), 2)
                self.assertTrue(error.found[0] is things[0] and error.found[1] is things[1])
        fetch.take("cy", 0, PIECES[0])
        self.stays(fetch, NotThere, {"found": ("cy", 0)}, fetch.take, "cy", 0, PIECES[0])
        # cy's next piece is asked for in the next turn alone.
        self.stays(fetch, NotThere, {"found": ("cy", 1)}, fetch.take, "cy", 1, PIECES[1])


class Turns(FetchCase):
    def test_asks_are_answered_in_order(self):
        fetch = Fetch(CARD, {"ben": [0, 1, 2], "cy": [2, 3], "dan": [4]})
        asked = []

        def give(name, at):
            asked.append((name, at, fetch.in_turn(), fetch.turns()))
            return {"ben": PIECES[at], "cy": "wrong", "dan": None}[name]
        told = fetch.asks()
        self.assertEqual(told, [("ben", 0), ("cy", 3), ("dan", 4)])
        self.assertIs(fetch.in_turn(), False)
        self.assertEqual(fetch.turn(give), 1)
        self.assertEqual(asked, [one + (True, 0) for one in told])
        self.assertEqual(fetch.rows(), [
            (0, "ben", 0, PIECES[0], "right"), (0, "cy", 3, "wrong", "wrong"), (0, "dan", 4, None, "silent")])
        self.assertEqual((fetch.turns(), fetch.in_turn(), fetch.ended()), (1, False, False))
        self.assertEqual((fetch.asked(), fetch.wrongs()), ({"ben": 1, "cy": 1, "dan": 1}, {"ben": 0, "cy": 1, "dan": 0}))
        self.assertEqual(fetch.turn(give), 1)
        self.assertEqual(fetch.rows()[3:], [(1, "ben", 1, PIECES[1], "right"), (1, "cy", 2, "wrong", "wrong")])
        self.assertEqual(fetch.turn(give), 1)
        self.assertEqual((fetch.rows()[5:], fetch.turns()), ([(2, "ben", 2, PIECES[2], "right")], 3))
        self.assertEqual((fetch.ended(), fetch.lacking(), fetch.turn(give), fetch.turns()), (True, [3, 4, 5, 6, 7], 0, 3))
        self.refused_with(Lacks, {"found": [3, 4, 5, 6, 7]}, fetch.text)

    def test_dicts_are_told_in_the_order_of_the_claims(self):
        fetch = self.short({"zoe": [0], "ada": [1], "max": []}, seen={"ada": 1, "cy": 2})
        fetch.turn(lambda name, at: "wrong")
        self.assertEqual(list(fetch.asked().items()), [("zoe", 1), ("ada", 1), ("max", 0)])
        self.assertEqual(list(fetch.wrongs().items()), [("zoe", 1), ("ada", 1), ("max", 0)])

    def test_a_turn_that_a_refusal_leaves_half_way(self):
        def give(name, at):
            if name == "cy":
                raise TooMany(7)
            return PIECES[at]
        fetch = self.short({"ben": [0], "cy": [1], "dan": [2]})
        self.refused_with(TooMany, {"many": 7}, fetch.turn, give)
        self.assertEqual((fetch.in_turn(), fetch.turns(), fetch.asks()), (False, 0, [("cy", 1), ("dan", 2)]))
        self.assertEqual((fetch.rows(), fetch.asked()), ([(0, "ben", 0, PIECES[0], "right")], {"ben": 1, "cy": 0, "dan": 0}))
        self.refused_with(TooMany, {"many": 7}, fetch.turn, give)
        self.assertEqual(len(fetch.rows()), 1)
        self.assertEqual(fetch.turn(self.give), 2)
        self.assertEqual((fetch.text(), fetch.turns(), [row[0] for row in fetch.rows()]), (TEXT[:24], 1, [0, 0, 0]))

    def test_any_error_goes_out_of_a_turn(self):
        fetch = self.short({"ben": [0]})
        with self.assertRaises(ZeroDivisionError):
            fetch.turn(lambda name, at: 1 // 0)
        self.assertEqual((fetch.in_turn(), fetch.asks()), (False, [("ben", 0)]))

    def test_a_turn_behind_some_answers(self):
        fetch = self.short({"ben": [0], "cy": [1], "dan": [2]})
        fetch.take("cy", 1, PIECES[1])
        self.assertIs(fetch.in_turn(), False)
        self.assertEqual((fetch.turn(self.give), fetch.turns(), fetch.text()), (2, 1, TEXT[:24]))
        self.assertEqual([row[1] for row in fetch.rows()], ["cy", "ben", "dan"])

    def test_a_turn_within_a_turn(self):
        fetch = self.short({"ben": [0], "cy": [1]})
        told = []

        def give(name, at):
            other = self.short({"dan": [2]})
            told.append((other.turn(self.give), other.in_turn(), fetch.in_turn()))
            return PIECES[at]
        fetch.turn(give)
        self.assertEqual(told, [(1, False, True), (1, False, True)])

    def test_a_turn_of_the_same_fetch_within_its_turn(self):
        fetch = self.short({"ben": [0], "cy": [1]})
        told = []

        def give(name, at):
            if not told:
                told.append(fetch.in_turn())
                self.refusal(fetch.turn, lambda one, other: fetch.asked() and fetch.take("no", 0, None))
                told.append(fetch.in_turn())
            return PIECES[at]
        self.assertEqual(fetch.turn(give), 2)
        self.assertEqual((told, fetch.in_turn()), ([True, True], False))


class Whole(FetchCase):
    def test_the_text_is_whole_where_somebody_always_answers_right(self):
        chance = random.Random(5)
        for _ in range(400):
            many = chance.randint(0, 8)
            text = TEXT[:8 * many]
            card = card_of("key", 1, "ada", text=text)
            names = ["ada", "ben", "cy", "dan", "eve", "fay", "gil", "hal"][:chance.randint(1, 8)]
            honest = [name for name in names if chance.random() < 0.5] or names[:1]
            claims = {name: [at for at in range(many) if chance.random() < 0.6] for name in names}
            for at in range(many):
                if not any(at in claims[name] for name in honest):
                    claims[honest[0]] = sorted(claims[honest[0]] + [at])
            had = {at: PIECES[at] for at in range(many) if chance.random() < 0.2}
            seen = {name: chance.randint(0, 2 if name in honest else 4) for name in names if chance.random() < 0.5}
            fetch = Fetch(card, claims, had=had, seen=seen)
            while not fetch.ended():
                ahead = fetch.turns()
                fetch.turn(lambda name, at: PIECES[at] if name in honest else chance.choice([None, "wrong", PIECES[at]]))
                self.assertEqual(fetch.turns(), ahead + 1)
            self.assertEqual(fetch.text(), text)
            self.assertLessEqual(len(fetch.rows()), sum(len(numbers) for numbers in claims.values()) + many)
            for name in names:
                self.assertLessEqual(fetch.wrongs()[name] + seen.get(name, 0), max(3, seen.get(name, 0)))
                self.assertEqual(fetch.wrongs()[name], 0 if name in honest else fetch.wrongs()[name])
                self.assertEqual(fetch.asked()[name], len([row for row in fetch.rows() if row[1] == name]))


if __name__ == "__main__":
    unittest.main()
