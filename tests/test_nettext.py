"""Points 122, 123 and 9: deeds done in Cries, Cries as whole texts, and what is read behind any history."""

import inspect
import unittest

from peersmeet import nettext
from peersmeet.cries import Cries
from peersmeet.deedtext import deed_text, is_deed
from peersmeet.errors import Absent, Away, Barred, Down, Lacks, NoCries, NoDeed, NoOrder, NoPeer, NoRow, NoSides, NoText, NotFound
from peersmeet.errors import NotOnRoad, PeerError, TooMany
from peersmeet.fetching import fetch_in
from peersmeet.finds import find_in
from peersmeet.looks import look, put, seek
from peersmeet.nets import Net
from peersmeet.nettext import do_deed, net_of, net_text
from peersmeet.things import card_of
from tests.histories import Deeds
from tests.refusals import RefusalCase, any_things
from tests.test_cries import cries_of
from tests.test_deedtext import ROWS

CARD = card_of("a", 1, "ada", text="some text")


class Done(RefusalCase):
    def setUp(self):
        self.net = cries_of("ada", "ben", "cy")
        self.net.say("ada", "x")
        put(self.net, "ada", "a", "some text")

    def test_names_and_arguments(self):
        for call, form in ((do_deed, "(net, deed)"), (net_text, "(net)"), (net_of, "(text)")):
            self.assertEqual((str(inspect.signature(call)), call.__module__), (form, nettext.__name__))

    def test_told_is_what_the_deed_tells(self):
        deeds = [
            (("enter", "dan", "ada", 100), lambda net: net.enter("dan", "ada", 100)), (("leave", "ben"), lambda net: net.leave("ben")),
            (("stop", "ben", True), lambda net: net.stop("ben")), (("stop", "ben", False), lambda net: net.stop("ben", keep=False)),
            (("turn", "cy"), lambda net: net.turn("cy")), (("cut", (("ada",), ("ben", "cy"))), lambda net: net.cut([["ada"], ["ben", "cy"]])),
            (("heal",), lambda net: net.heal()), (("lie", "ada", "steps"), lambda net: net.lie("ada", "steps")),
            (("lie", "ada", None), lambda net: net.lie("ada", None)), (("round", None), lambda net: net.go_round()),
            (("round", ("cy", "ada", "ben")), lambda net: net.go_round(["cy", "ada", "ben"])), (("rest", None), lambda net: net.rest()),
            (("rest", ("cy", "ada", "ben")), lambda net: net.rest(["cy", "ada", "ben"])), (("seek", "ben", 7), lambda net: seek(net, "ben", 7)),
            (("look", "ben", "a"), lambda net: look(net, "ben", "a")), (("put", "ben", "a", "x"), lambda net: put(net, "ben", "a", "x")),
            (("put", "ben", "a", None), lambda net: put(net, "ben", "a", None)), (("fetch", "ben", CARD), lambda net: fetch_in(net, "ben", CARD)),
            (("find", "ben", "a"), lambda net: find_in(net, "ben", "a")), (("say", "ben", "y"), lambda net: net.say("ben", "y")),
            (("come", 1), lambda net: net.come(1)), (("lose", 2), lambda net: net.lose(2)), (("double", 2), lambda net: net.double(2)),
            (("flow",), lambda net: net.flow()),
        ]
        for deed, call in deeds:
            one, other = self.net.copied(), self.net.copied()
            self.assertEqual(do_deed(one, deed), call(other), deed)
            self.assertEqual((one, one.deeds(), one.under_way()), (other, other.deeds(), other.under_way()))
            self.assertEqual(one.deeds()[-1], deed)
        net = Cries()
        self.assertIs(do_deed(net, ("begin", "ada", 50)), None)
        self.net.stop("ben")
        self.assertIs(do_deed(self.net, ("back", "ben")), None)
        self.assertEqual((net.names(), self.net.peer("ben").number()), (["ada"], 2))
        self.assertEqual({deed[0] for deed, _ in deeds} | {"begin", "back"}, {deed[0] for deed in ROWS.values()})

    def test_refused_is_what_the_deed_refuses(self):
        self.net.stop("cy")
        refused = [
            (("begin", "dan", 0), TooMany, {"many": 1}), (("leave", "zoe"), NoPeer, {"found": "zoe"}), (("turn", "cy"), Down, {"found": "cy"}),
            (("cut", (("ada",), ("ben",))), NoSides, {"found": (("ada",), ("ben",))}), (("round", ("ada",)), NoOrder, {"found": ("ada",)}),
            (("rest", ()), NoOrder, {"found": ()}), (("come", 3), NotOnRoad, {"found": 3}), (("find", "ada", "b"), NotFound, {"found": "b"}),
            (("fetch", "ada", card_of("a", 2, "ada", text="x")), Lacks, {"found": [0]}),
        ]
        for deed, kind, fields in refused:
            self.refused_with(kind, fields, do_deed, self.net, deed)
        put(self.net, "ada", "a", None)
        self.refused_with(Away, {"found": "a"}, do_deed, self.net, ("find", "ada", "a"))

    def test_no_cries_and_no_deed(self):
        for call in (lambda thing: do_deed(thing, None), net_text):
            for thing in any_things() + [Net()]:
                if not isinstance(thing, Cries):
                    self.refused(NoCries, thing, call, thing)
        ahead = self.net.copied()
        for thing in any_things() + [("round",), ("cut", [["ada"], ["ben", "cy"]]), ("come", True), "heal", ["heal"], ("away", "ada", "a")]:
            self.refused(NoDeed, thing, do_deed, self.net, thing)
        self.assertEqual((self.net, self.net.deeds()), (ahead, ahead.deeds()))


class Texts(RefusalCase):
    def test_the_copies_and_the_rows_of_all_deeds(self):
        net = Cries(3)
        self.assertEqual(net_text(net), "net 3")
        net.begin("ada", 10)
        net.enter("ben", "ada", 200)
        net.cut([["ben"], ["ada"]])
        net.go_round(["ben", "ada"])
        net.heal()
        net.turn("ben")
        put(net, "ada", "a", " =x ")
        put(net, "ben", "b", None)
        net.say("ben", "")
        net.double(1)
        fetch_in(net, "ada", card_of("b", 5, "cy", text=""))
        net.stop("ben", keep=False)
        net.rest()
        text = "\n".join([
            "net 3", "begin ada 10", "enter ben ada 200", "cut ben / ada", "round in ben ada", "heal", "turn ben", "put ada a = =x ",
            "away ben b", "say ben =", "double 1", "fetch ada b 5 cy empty", "stop ben lost", "rest"])
        self.assertEqual(net_text(net), text)
        self.assertEqual((net_of(text), net_of(text).deeds(), net_of(text).under_way()), (net, net.deeds(), net.under_way()))
        self.assertIs(type(net_of(text)), Cries)

    def test_without_deeds(self):
        for copies in (1, 2, 3, 4):
            net = net_of(f"net {copies}")
            self.assertEqual((net, net.deeds(), net.copies()), (Cries(copies), [], copies))

    def test_no_text(self):
        self.refuses_all_but(NoText, lambda thing: isinstance(thing, str), net_of)

    def row(self, at, text):
        self.refused_with(NoRow, {"at": at}, net_of, text)

    def test_the_first_row(self):
        for text in ("", "\n", "net", "net ", "net 0", "net 5", "net 02", "net 2 ", " net 2", "net  2", "Net 2", "net two", "net +2", "net 2 2",
                     "net2", "net 10", "net -1", "begin ada 0", "\nnet 2", "net 2\t", "heal", "x" * 200, "net 2.0"):
            self.row(0, text)
            self.row(0, text + "\nno row")
            self.row(0, text + "\nbegin ada 0")
        for thing in any_things():
            if isinstance(thing, str):
                self.row(0, thing)

    def test_a_row_that_has_not_its_form(self):
        self.row(1, "net 2\n")
        self.row(1, "net 2\n\nbegin ada 0")
        self.row(2, "net 2\nbegin ada 0\n")
        self.row(2, "net 2\nheal\n\nheal")
        for row in ("Heal", " heal", "heal ", "come 0", "net 2", "names", "begin ada 256", "put ada a none"):
            self.row(1, "net 2\n" + row)
            self.row(3, "net 2\nbegin ada 0\nheal\n" + row + "\nheal\nno row\ncome 5")

    def test_a_row_whose_deed_is_refused_there(self):
        self.row(1, "net 2\nturn ada")
        self.row(2, "net 2\nbegin ada 0\nbegin ben 0")
        self.row(3, "net 2\nbegin ada 0\nheal\ncome 1")
        self.row(2, "net 2\nbegin ada 0\nround in ben")
        self.row(3, "net 2\nbegin ada 0\nstop ada kept\nseek ada 0")
        self.row(3, "net 2\nbegin ada 0\nstop ada kept\nfind ada key")
        self.row(3, "net 2\nbegin ada 0\nstop ada kept\nfetch ada key 1 ada empty")
        self.row(1, "net 2\nfind ada key")

    def test_the_first_of_both(self):
        self.row(2, "net 2\nbegin ada 0\nno row\nturn ben")
        self.row(2, "net 2\nbegin ada 0\nturn ben\nno row")
        self.row(1, "net 2\nno row\nturn ben")
        self.row(1, "net 2\nturn ben\nno row")

    def test_a_fetch_or_a_find_that_is_refused_but_is_a_deed(self):
        rows = ["net 1", "begin ada 0", "enter ben ada 100", "lie ben pieces", "find ada key", "away ada key", "find ben key",
                "put ada b =gone", "fetch ada m 1 ada 98", "fetch ada m 1 ada 25186", "put ben key =x", "stop ada lost", "find ben key",
                "find ben b"]
        net = net_of("\n".join(rows))
        self.assertEqual([deed_text(deed) for deed in net.deeds()], rows[1:])
        self.assertEqual(net_text(net), "\n".join(rows))
        again = Cries(1)
        words = []
        for deed in net.deeds():
            try:
                do_deed(again, deed)
            except (PeerError, Absent, Barred) as error:
                words.append(type(error).__name__)
        self.assertEqual((again, again.deeds()), (net, net.deeds()))
        self.assertTrue({"NotFound", "Away", "Lacks"} <= set(words), words)


class Histories(unittest.TestCase):
    def test_cries_that_are_written_and_read_are_equal_and_go_on_alike(self):
        for seed in range(150):
            history = Deeds(seed + 20000)
            net = history.deeds(80)
            text = net_text(net)
            again = net_of(text)
            self.assertEqual((again, again.deeds(), again.under_way()), (net, net.deeds(), net.under_way()))
            self.assertEqual((net_text(again), again.marks()), (text, net.marks()))
            for name in net.names():
                self.assertEqual(again.peer(name).log(), net.peer(name).log())
            # What is done to both from here on is told alike.
            other = Deeds(seed + 20000)
            other.chance.setstate(history.chance.getstate())
            other.net, other.put_cards, other.said, other.found = again, dict(history.put_cards), list(history.said), list(history.found)
            for _ in range(20):
                history.deed()
                other.deed()
            self.assertEqual((again, again.deeds(), again.under_way()), (net, net.deeds(), net.under_way()))
            self.assertEqual((other.found, other.said), (history.found, history.said))

    def test_all_deeds_are_deeds(self):
        for seed in range(60):
            net = Deeds(seed + 21000).deeds(80)
            for deed in net.deeds():
                self.assertIs(is_deed(deed), True)
                self.assertIs(type(deed), tuple)

    def test_as_many_deeds_as_may_be_done(self):
        history = Deeds(22000)
        while len(history.net.deeds()) < 300:
            history.deed()
        again = net_of(net_text(history.net))
        self.assertEqual((again, again.deeds()), (history.net, history.net.deeds()))

    def test_what_is_written_stays(self):
        net = Deeds(23000).deeds(80)
        ahead = net.copied()
        text = net_text(net)
        net_of(text).rest()
        self.assertEqual((net, net.deeds(), net_text(net)), (ahead, ahead.deeds(), text))


if __name__ == "__main__":
    unittest.main()
