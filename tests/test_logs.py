"""Point 56: the peer that a log makes."""

import inspect
import unittest

from peersmeet import logs
from peersmeet.errors import NoLog, NoRow
from peersmeet.logs import peer_of
from peersmeet.peers import Peer
from peersmeet.things import card_of
from tests.refusals import RefusalCase
from tests.test_peers import BORN, CARD, NO_ROWS, SAID

ROWS = [
    BORN, ("heard", "a", 1, 1, "here"), ("silent", "a"), ("heard", "me", 7, 3, "silent"), ("card", CARD),
    ("piece", "key", 1, "abc"), ("word", SAID), ("saw", "a"), ("turn",), ("less", "key", 1), ("dropped", "key"),
    ("card", card_of("key", 1, "a", text="new")), ("left",), ("back",), ("forgot",), ("word", SAID),
]


class PeerOf(RefusalCase):
    def test_its_name_and_argument(self):
        self.assertEqual((str(inspect.signature(peer_of)), peer_of.__module__), ("(rows)", logs.__name__))

    def test_of_each_beginning_of_a_log_the_peer_is_told(self):
        peer = Peer("me", 7)
        for many in range(1, len(ROWS) + 1):
            handed = ROWS[:many]
            told = peer_of(handed)
            self.assertIsInstance(told, Peer)
            self.assertEqual(told.log(), handed)
            self.assertEqual(peer_of(tuple(handed)), told)
            if many > 1:
                peer.goes_on(ROWS[many - 1:many])
            self.assertEqual((told, told.log()), (peer, peer.log()))
        self.assertEqual(told.known(), [("a", 1, 1, "silent"), ("me", 7, 5, "here")])
        self.assertEqual((told.words(), told.cards(), told.wrongs()), ([SAID], {}, {"a": (1, 4)}))

    def test_no_list(self):
        self.refuses_all_but(NoLog, lambda thing: isinstance(thing, (list, tuple)), peer_of)
        self.refused(NoLog, ROWS[0][0], peer_of, ROWS[0][0])

    def test_an_empty_log(self):
        for rows in ([], ()):
            self.refused_with(NoRow, {"at": 0}, peer_of, rows)

    def test_one_whose_first_row_is_not_born(self):
        for row in ROWS[1:] + NO_ROWS:
            self.refused_with(NoRow, {"at": 0}, peer_of, [row, None])
            self.refused_with(NoRow, {"at": 0}, peer_of, [row] + ROWS)

    def test_one_that_has_born_twice(self):
        for row in (BORN, ("born", "you", 9)):
            for at in range(1, len(ROWS)):
                self.refused_with(NoRow, {"at": at}, peer_of, ROWS[:at] + [row] + ROWS[at:])

    def test_one_with_what_is_no_row_or_cannot_be_done_there_or_changes_nothing(self):
        cannot = [
            ("silent", "me"), ("silent", "z"), ("card", ("key", 2, "z", None)), ("piece", "key", 0, "abc"),
            ("less", "key", 0), ("dropped", "key"), ("word", SAID), ("heard", "a", 1, 1, "here"),
        ]
        for row in cannot + NO_ROWS:
            handed = ROWS[:7] + [row, ("dropped", "nokey"), BORN]
            self.refused_with(NoRow, {"at": 7}, peer_of, handed)
            self.refused_with(NoRow, {"at": 7}, peer_of, tuple(handed))
        self.refused_with(NoRow, {"at": 1}, peer_of, [BORN, ("turn",), None])
        self.refused_with(NoRow, {"at": 2}, peer_of, [BORN, ("left",), ("left",)])
        self.refused_with(NoRow, {"at": 1}, peer_of, [BORN, ("forgot",)])

    def test_what_is_handed_in_stays_and_has_nothing_in_common(self):
        handed = list(ROWS)
        peer = peer_of(handed)
        self.assertEqual(handed, ROWS)
        handed.clear()
        peer.log().clear()
        self.assertEqual(peer.log(), ROWS)


if __name__ == "__main__":
    unittest.main()
