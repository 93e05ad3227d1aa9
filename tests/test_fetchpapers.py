"""Point 86: whether any thing is the rows of a fetch that has ended."""

import inspect
import random
import unittest

from peersmeet import fetchpapers
from peersmeet.errors import NoCard, NoList, WrongPiece
from peersmeet.fetches import Fetch
from peersmeet.fetchpapers import shows_fetch
from peersmeet.things import card_of, is_card, pieces_of
from tests.refusals import RefusalCase, any_things

TEXT = "111111112222222233333333"
CARD = card_of("a", 1, "ada", text=TEXT)
PIECES = pieces_of(TEXT)
CLAIMS = {"ben": [0, 1, 2], "cy": [0, 2], "dan": [1]}


def made(claims=None, had=None, seen=None):
    return Fetch(CARD, CLAIMS if claims is None else claims, had=had, seen=seen)


class Shows(RefusalCase):
    def setUp(self):
        fetch = made()
        fetch.turn(lambda name, at: {"ben": PIECES[at], "cy": "wrong", "dan": None}[name])
        while not fetch.ended():
            fetch.turn(lambda name, at: PIECES[at])
        self.rows = fetch.rows()

    def shows(self, rows, **named):
        return shows_fetch(CARD, CLAIMS, rows, **named)

    def test_name_and_arguments(self):
        self.assertEqual(str(inspect.signature(shows_fetch)), "(card, claims, rows, *, had=None, seen=None)")
        self.assertEqual(shows_fetch.__module__, fetchpapers.__name__)

    def test_rows_of_one_that_has_ended(self):
        self.assertEqual(self.rows, [
            (0, "ben", 0, PIECES[0], "right"), (0, "dan", 1, None, "silent"), (0, "cy", 2, "wrong", "wrong"),
            (1, "ben", 1, PIECES[1], "right"), (2, "ben", 2, PIECES[2], "right")])
        self.assertIs(self.shows(self.rows), True)
        self.assertIs(self.shows(tuple(self.rows)), True)
        self.assertEqual(self.rows[0], (0, "ben", 0, PIECES[0], "right"))

    def test_answers_of_a_turn_come_in_any_order(self):
        one, other, third = self.rows[:3]
        for rows in ([other, one, third], [third, other, one], [one, third, other]):
            self.assertIs(self.shows(rows + self.rows[3:]), True)
        self.assertIs(self.shows([one, other, self.rows[3], third, self.rows[4]]), False)

    def test_pieces_that_lack_at_the_end(self):
        rows = [(0, "ben", 0, None, "silent"), (0, "dan", 1, None, "silent"), (0, "cy", 2, None, "silent")]
        self.assertIs(self.shows(rows), True)
        self.assertIs(self.shows(rows[:2]), False)
        self.assertIs(self.shows([]), False)
        self.assertIs(shows_fetch(CARD, {}, []), True)
        self.assertIs(shows_fetch(CARD, {"ben": []}, ()), True)
        self.assertIs(shows_fetch(CARD, {}, rows[:1]), False)

    def test_rows_with_one_part_otherwise(self):
        for at, row in enumerate(self.rows):
            wrong = [list(row), row[:4], row + (None,), None, (), "row"]
            for part, things in enumerate(([row[0] + 1, row[0] - 1, bool(row[0]), str(row[0]), None, []],
                                           ["zoe", None, [], 0, "ben " if row[1] == "ben" else "ben"],
                                           [row[2] + 1, row[2] - 1, bool(row[2]), 7, None, "0", []], [],
                                           ["right" if row[4] != "right" else "wrong", "Right", None, [], 0])):
                wrong += [row[:part] + (thing,) + row[part + 1:] for thing in things]
            if row[4] == "right":
                wrong += [row[:3] + (thing, "right") for thing in (None, "wrong", PIECES[row[2]] + "1", [PIECES[row[2]]])]
            else:
                wrong += [row[:3] + (PIECES[row[2]], row[4])]
            for other in wrong:
                self.assertIs(self.shows(self.rows[:at] + [other] + self.rows[at + 1:]), False, other)
                self.assertIs(self.shows(self.rows[:at] + [other] + self.rows[at:]), False, other)
        for thing in any_things():
            if thing is not None:
                row = (0, "cy", 2, thing, "wrong")
                self.assertIs(self.shows(self.rows[:2] + [row] + self.rows[3:]), True)

    def test_rows_left_out_or_put_on(self):
        for at, row in enumerate(self.rows):
            self.assertIs(self.shows(self.rows[:at]), False)
            self.assertIs(self.shows(self.rows[:at] + self.rows[at + 1:]), False)
            self.assertIs(self.shows(self.rows[:at] + [row] + self.rows[at:]), False)
            self.assertIs(self.shows(self.rows + [row]), False)

    def test_any_thing(self):
        for thing in any_things() + [None, dict(enumerate(self.rows)), "rows"]:
            self.assertIs(self.shows(thing), False)

    def test_with_what_is_had_and_was_seen(self):
        had, seen = {0: PIECES[0]}, {"cy": 3, "zoe": 1}
        fetch = made(had=had, seen=seen)
        while not fetch.ended():
            fetch.turn(lambda name, at: PIECES[at])
        rows = fetch.rows()
        self.assertIs(self.shows(rows, had=had, seen=seen), True)
        for named in ({}, {"had": had}, {"seen": seen}, {"had": {}, "seen": {}}, {"had": had, "seen": {"cy": 2}},
                      {"had": {1: PIECES[1]}, "seen": seen}, {"had": None, "seen": None}):
            self.assertIs(self.shows(rows, **named), False, named)
        self.assertEqual((had, seen), ({0: PIECES[0]}, {"cy": 3, "zoe": 1}))
        self.assertIs(self.shows(self.rows, had={}, seen={}), True)

    def test_of_another_card_or_other_claims(self):
        other = card_of("a", 1, "ada", text="x" * 24)
        self.assertIs(shows_fetch(other, CLAIMS, self.rows), False)
        for claims in ({}, {"ben": [0, 1, 2]}, {"dan": [1], "ben": [0, 1, 2]}, {"ben": [0, 1], "cy": [0, 2], "dan": [1]}):
            self.assertIs(shows_fetch(CARD, claims, self.rows), False)

    def test_rows_of_all_fetches(self):
        chance = random.Random(7)
        for _ in range(300):
            claims = {name: [at for at in range(3) if chance.random() < 0.7] for name in ("ben", "cy", "dan", "eve")}
            had = {at: PIECES[at] for at in range(3) if chance.random() < 0.2}
            seen = {name: chance.randint(0, 3) for name in claims if chance.random() < 0.5}
            fetch = made(claims, had, seen)
            while not fetch.ended():
                self.assertIs(shows_fetch(CARD, claims, fetch.rows(), had=had, seen=seen), False)
                name, at = chance.choice(fetch.asks())
                fetch.take(name, at, chance.choice([PIECES[at], None, "wrong", [1]]))
            self.assertIs(shows_fetch(CARD, claims, fetch.rows(), had=had, seen=seen), True)

    def test_refused_as_a_fetch_is(self):
        self.refuses_all_but(NoCard, lambda thing: is_card(thing) and thing[3] is not None,
                             lambda thing: shows_fetch(thing, None, None, had=1, seen=1))
        away = card_of("a", 1, "ada")
        self.refused(NoCard, away, shows_fetch, away, CLAIMS, [])
        for claims in (None, {"ben": [3]}, {"Ben": []}, {"ben": [1, 0]}):
            self.refused(NoList, claims, shows_fetch, CARD, claims, None, had=1, seen=1)
        for had in (1, [PIECES[0]], {3: "x"}, {0: None}):
            self.refused(NoList, had, shows_fetch, CARD, CLAIMS, None, had=had, seen=1)
        self.refused_with(WrongPiece, {"at": 1}, shows_fetch, CARD, CLAIMS, None, had={1: "x", 0: "x"}, seen=1)
        for seen in (1, {"ben": None}, {"Ben": 1}):
            self.refused(NoList, seen, shows_fetch, CARD, CLAIMS, None, seen=seen)


if __name__ == "__main__":
    unittest.main()
