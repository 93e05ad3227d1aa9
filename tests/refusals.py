"""What the tests share: any things to hand in, and how a refusal is looked at."""

import unittest

from peersmeet.books import Book
from peersmeet.circles import Circle
from peersmeet.cries import Cries
from peersmeet.desk import Desk
from peersmeet.errors import Absent, Barred, PeerError
from peersmeet.fetches import Fetch
from peersmeet.nets import Net
from peersmeet.orders import Moment
from peersmeet.peers import Peer
from peersmeet.roads import Roads
from peersmeet.stores import Store
from peersmeet.views import View
from peersmeet.wrongs import Wrongs


def any_things():
    """New ones each time: things of all kinds, none of them of most kinds that are wanted."""
    return [
        None, True, False, 0, 1, -1, 256, 10 ** 29, -(10 ** 29),
        "", "a", "Ab", "abcdefghi", "a b", "a\n", "\n", "100%", " " * 61, "x" * 200,
        [], (), {}, [None], (None,), ["a"], ("a",), ("a", 0), ["a", 0], {"a": 1}, {1: "a", None: []},
        [[[[[[[["a"]]]]]]]], ("a", 1, "b", None), Circle([("a", 0)]), Store(), Book(), View("a", 0),
        Wrongs(), Peer("a", 0), Net(), Fetch(("a", 1, "b", ()), {}), Roads(), Cries(), Moment(Cries(), []), Desk(),
    ]


class RefusalCase(unittest.TestCase):
    def refusal(self, call, *things, **named):
        try:
            call(*things, **named)
        except (PeerError, Absent, Barred) as error:
            return error
        self.fail(f"not refused: {things!r} {named!r}")

    def refused(self, kind, thing, call, *things, **named):
        """The call is refused with this very class and, in its field, this very thing."""
        error = self.refusal(call, *things, **named)
        self.assertIs(type(error), kind, f"{things!r} {named!r}")
        self.assertIs(error.found, thing, f"{things!r} {named!r}")

    def refused_with(self, kind, fields, call, *things, **named):
        """The call is refused with this very class and fields equal to these."""
        error = self.refusal(call, *things, **named)
        self.assertIs(type(error), kind, f"{things!r} {named!r}")
        self.assertEqual(vars(error), fields)
        for field in fields:
            self.assertIs(type(vars(error)[field]), type(fields[field]))

    def refuses_all_but(self, kind, is_right, call):
        """A door refuses each of any things that isn't right, and the thing itself is told."""
        for thing in any_things():
            if not is_right(thing):
                self.refused(kind, thing, call, thing)
