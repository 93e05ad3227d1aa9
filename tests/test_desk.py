"""Points 124 to 126: the desk, lines that do deeds, lines that ask, and lines said together."""

import inspect
import unittest

from peersmeet import desk as desk_file
from peersmeet.cries import Cries
from peersmeet.desk import Desk
from peersmeet.errors import Absent, Away, Barred, Down, Lacks, NoLine, NoList, NoNumber, NoPeer, NotFound, NotOnRoad, PeerError
from peersmeet.errors import TooMany
from peersmeet.nettext import net_of, net_text
from tests.histories import Deeds
from tests.refusals import RefusalCase, any_things
from tests.test_deedtext import ROWS
from tests.test_nets import TEXT

# Round: ada 10, ben 100, cy 200.
START = ["begin ada 10", "enter ben ada 100", "enter cy ben 200"]
# The card of `a` is kept at 232 by ada and ben, its first piece at 8 by ada and ben, the second at 40 by ben and cy.
PUT = "put cy a =12345678x"
MARKS = "25514,31097"


class DeskCase(RefusalCase):
    def setUp(self):
        self.desk = Desk(2)
        self.desk.say_all(START)

    def says(self, line, *answer):
        told = self.desk.say(line)
        self.assertIs(type(told), list)
        self.assertEqual(told, list(answer), line)

    def stays(self, call, thing):
        ahead = self.desk.net()
        self.refusal(call, thing)
        net = self.desk.net()
        self.assertEqual((net, net.deeds(), net.under_way()), (ahead, ahead.deeds(), ahead.under_way()))


class Does(DeskCase):
    def test_names_and_methods_of_its_own(self):
        told = {"__init__": "(self, copies=2)", "say": "(self, line)", "say_all": "(self, lines)", "net": "(self)"}
        for name, form in told.items():
            self.assertEqual(str(inspect.signature(vars(Desk)[name])), form)
        self.assertEqual(Desk.__module__, desk_file.__name__)
        self.assertIsInstance(repr(Desk()), str)

    def test_copies(self):
        self.assertEqual([Desk().net().copies()] + [Desk(copies=copies).net().copies() for copies in (1, 2, 3, 4)], [2, 1, 2, 3, 4])
        self.refuses_all_but(NoNumber, lambda thing: type(thing) is int and 1 <= thing <= 4, Desk)

    def test_deeds_of_a_net(self):
        for line in ("turn ada", "cut ada / ben cy", "heal", "lie ben steps", "lie ben none", "stop ben kept", "back ben", "stop cy lost",
                     "leave ada", "enter dan ben 7"):
            self.says(line)
        self.assertEqual([deed[0] for deed in self.desk.net().deeds()[3:]],
                         ["turn", "cut", "heal", "lie", "lie", "stop", "back", "stop", "leave", "enter"])
        self.says("standing", "ben", "dan")

    def test_words_that_are_said(self):
        self.says("say ada =hello there", "ada 1 1 =hello there")
        self.says("say ada =", "ada 1 2 =")
        self.says("say ben = = ", "ben 1 1 = = ")
        self.says("come 1", "heard")
        self.says("double 2", "7")
        self.says("come 7", "heard")
        self.says("come 2", "nothing")
        self.says("lose 3")
        self.says("flow", "3")
        self.says("flow", "0")

    def test_puts_looks_finds_and_fetches(self):
        self.says("look ada a", "none")
        self.says(PUT, f"a 1 cy {MARKS}", "ada", "ben", "cy")
        self.says("look ben a", f"a 1 cy {MARKS}")
        self.says("find ben a", "=12345678x")
        self.says(f"fetch ben a 1 cy {MARKS}", "=12345678x")
        self.says("fetch ben a 7 dan empty", "=")
        self.says("put ada a =", "a 2 ada empty", "ada", "ben")
        self.says("find cy a", "=")
        self.says("away ben a", "a 3 ben none", "ada", "ben")
        self.says("look ada a", "a 3 ben none")
        self.says("away ben b", "b 1 ben none", "ada", "ben")

    def test_seeks_rounds_and_rests(self):
        self.says("seek ada 7", "ada", "ben")
        self.says("seek ada 101", "cy", "ada")
        self.says("round", "same")
        self.says("rest", "1")
        self.says("say ada =x", "ada 1 1 =x")
        self.says("round in cy ben ada", "changed")
        self.says("round", "same")
        self.says("cut ada / ben cy")
        self.says("rest in cy ada ben", "2")
        self.says("heal")
        self.says("rest", "2")

    def test_deeds_that_are_refused(self):
        refused = {
            "begin dan 0": (TooMany, {"many": 1}), "turn zoe": (NoPeer, {"found": "zoe"}), "come 1": (NotOnRoad, {"found": 1}),
            "find ada key": (NotFound, {"found": "key"}), "fetch ada a 1 ada 25186": (Lacks, {"found": [0]}),
        }
        for line, (kind, fields) in refused.items():
            self.refused_with(kind, fields, self.desk.say, line)
        self.desk.say("away ada a")
        self.refused_with(Away, {"found": "a"}, self.desk.say, "find ada a")
        self.desk.say("stop ada kept")
        self.refused_with(Down, {"found": "ada"}, self.desk.say, "find ada a")
        # Those that are deeds all the same are noted.
        self.says("deeds", *START, "find ada key", "fetch ada a 1 ada 25186", "away ada a", "find ada a", "stop ada kept")

    def test_each_line_does_its_deed(self):
        for row, deed in ROWS.items():
            self.setUp()
            ahead = len(self.desk.net().deeds())
            try:
                told = self.desk.say(row)
            except (PeerError, Absent, Barred) as error:
                self.assertNotIsInstance(error, NoLine)
                continue
            self.assertTrue(all(type(text) is str for text in told))
            self.assertEqual(self.desk.net().deeds()[ahead:], [deed])


class Asks(DeskCase):
    def setUp(self):
        DeskCase.setUp(self)
        self.desk.say_all([PUT, "say ada =a b", "stop ben kept", "lie cy silence"])

    def test_of_the_net(self):
        self.says("names", "ada", "ben", "cy")
        self.says("standing", "ada", "cy")
        self.says("copies", "2")
        self.says("deeds", *START, PUT, "say ada =a b", "stop ben kept", "lie cy silence")
        self.says("letters", "1 ada ben ada 1 1 =a b", "2 ada cy ada 1 1 =a b")
        empty = Desk(4)
        self.assertEqual(empty.say_all(["names", "standing", "copies", "deeds", "letters"]), [[], [], ["4"], [], []])

    def test_of_a_peer(self):
        self.says("at ada", "10 1 0 stands none")
        self.says("at ben", "100 1 0 down none")
        self.says("at cy", "200 1 0 stands silence")
        self.desk.say_all(["back ben", "cut ada / ben cy"])
        self.says("at ben", "100 2 1 stands none")
        self.says("knows ada", "ada 10 1 here", "ben 100 2 here", "cy 200 1 here")
        self.desk.say("turn ada")
        self.says("knows ada", "ada 10 1 here", "ben 100 2 silent", "cy 200 1 silent")
        self.says("circle ada", "ada")
        self.says("circle cy", "ada", "ben", "cy")

    def test_keepers_by_its_circle(self):
        self.says("keepers ada 101", "cy", "ada")
        self.desk.say("turn ada")
        self.says("keepers ada 101", "ada")
        self.says("keepers cy 101", "cy", "ada")
        self.says("keepers cy 0", "ada", "ben")
        self.says("keepers ben 255", "ada", "ben")
        desk = Desk(1)
        desk.say_all(START)
        self.assertEqual(desk.say("keepers ada 101"), ["cy"])

    def test_what_peers_keep_and_heard(self):
        self.says("cards ada", f"a 1 cy {MARKS}")
        self.says("pieces ada a", "0 =12345678")
        self.says("pieces ben a", "0 =12345678", "1 =x")
        self.says("pieces cy a", "1 =x")
        self.says("pieces cy b")
        self.says("words ada", "ada 1 1 =a b")
        self.says("words cy")
        self.says("wrongs ada")
        self.desk.say_all(["lie cy none", "away ada b", "put ada c ="])
        self.says("cards ada", f"a 1 cy {MARKS}", "b 1 ada none", "c 1 ada empty")
        desk = Desk(2)
        desk.say_all(START + ["lie ben steps", "lie cy pieces", "put ada a =" + TEXT])
        self.assertEqual(desk.say("wrongs ada"), ["ben 3 5"])
        for _ in range(3):
            desk.say("turn ada")
        # Of ben, which it passes over, and of cy it lacks the second and the third piece.
        self.assertRaises(Lacks, desk.say, "find ada a")
        self.assertEqual(desk.say("wrongs ada"), ["ben 3 2", "cy 2 5"])

    def test_asking_is_no_deed(self):
        ahead = self.desk.net()
        for line in ("names", "standing", "copies", "deeds", "letters", "at ada", "knows ada", "circle ada", "keepers ada 0", "cards ada",
                     "pieces ada a", "words ada", "wrongs ada"):
            told = self.desk.say(line)
            self.assertTrue(all(type(text) is str for text in told))
            told.append("more")
            self.assertEqual(self.desk.say(line), told[:-1])
        net = self.desk.net()
        self.assertEqual((net, net.deeds(), net.under_way()), (ahead, ahead.deeds(), ahead.under_way()))

    def test_what_is_no_line(self):
        self.refuses_all_but(NoLine, lambda thing: False, self.desk.say)
        for line in ("", " ", "name", "Names", "names ", " names", "names  ", "names ada", "standing 1", "copies 2", "deeds\n", "letters 1",
                     "at", "at Ada", "at 5", "at ada ben", "at  ada", "at abcdefghi", "knows", "circle ada 5", "keepers ada", "keepers 5 ada",
                     "keepers ada 256", "keepers ada 05", "keepers ada -1", "keepers ada five", "keepers Ada 5", "keepers 5", "cards", "cards 1",
                     "pieces ada", "pieces ada A", "pieces ada 5", "pieces a ada a", "words", "words ada =x", "wrongs", "wrongs a1", "net 2",
                     "say ada hello", "come 0", "begin ada 256", "heal ", "put ada a none", "stop ada", "round ada", "fetch ada a 1 ada none"):
            self.refused(NoLine, line, self.desk.say, line)
            self.stays(self.desk.say, line)

    def test_a_name_of_no_peer(self):
        for line in ("at zoe", "knows zoe", "circle zoe", "keepers zoe 0", "cards zoe", "pieces zoe a", "words zoe", "wrongs zoe"):
            self.refused_with(NoPeer, {"found": "zoe"}, self.desk.say, line)
            self.stays(self.desk.say, line)
        # What is no line goes ahead.
        for line in ("keepers zoe 256", "pieces zoe A", "at zoe zoe"):
            self.refused(NoLine, line, self.desk.say, line)


class Together(DeskCase):
    def test_answers(self):
        lines = ["put ada a =x", "find ben a", "names", "heal"]
        told = self.desk.say_all(lines)
        self.assertEqual(told, [["a 1 ada 31097", "ada", "ben"], ["=x"], ["ada", "ben", "cy"], []])
        self.assertEqual([type(told)] + [type(answer) for answer in told], [list] * 5)
        self.assertEqual(lines, ["put ada a =x", "find ben a", "names", "heal"])
        self.assertEqual(self.desk.say_all(()), [])
        self.assertEqual(self.desk.say_all([]), [])
        self.assertEqual(self.desk.say_all(("copies",)), [["2"]])

    def test_where_one_is_refused_those_ahead_are_done(self):
        for line, kind in (("names ada", NoLine), (None, NoLine), ("turn zoe", NoPeer), ("at zoe", NoPeer), ("come 5", NotOnRoad),
                           ("find ada zz", NotFound)):
            self.setUp()
            self.assertIs(type(self.refusal(self.desk.say_all, ["say ada =x", "lose 1", line, "flow"])), kind)
            deeds = [deed for deed in self.desk.net().deeds() if deed[0] != "find"]
            self.assertEqual(deeds[3:], [("say", "ada", "x"), ("lose", 1)])

    def test_no_list(self):
        self.refuses_all_but(NoList, lambda thing: isinstance(thing, (list, tuple)), self.desk.say_all)
        many = ["heal"] * 101
        self.refused(NoList, many, self.desk.say_all, many)
        self.stays(self.desk.say_all, many)
        self.assertEqual(self.desk.say_all(many[:100]), [[]] * 100)
        for thing in any_things():
            self.refused(NoLine, thing, self.desk.say_all, [thing])

    def test_its_cries_are_told_as_a_copy(self):
        net = self.desk.net()
        self.assertIs(type(net), Cries)
        net.stop("ada")
        net.say("ben", "x")
        self.says("standing", "ada", "ben", "cy")
        self.says("letters")
        self.assertEqual(self.desk.net().deeds(), [("begin", "ada", 10), ("enter", "ben", "ada", 100), ("enter", "cy", "ben", 200)])
        ahead = self.desk.net()
        self.desk.say("stop ada kept")
        self.assertEqual(ahead.standing(), ["ada", "ben", "cy"])


class Histories(unittest.TestCase):
    def test_rows_of_a_history_said_at_a_desk(self):
        for seed in range(60):
            net = Deeds(seed + 30000).deeds(80)
            first, *rows = net_text(net).split("\n")
            desk = Desk(int(first.split(" ")[1]))
            for row in rows:
                try:
                    desk.say(row)
                except (NotFound, Away, Lacks):
                    pass
            self.assertEqual((desk.net(), desk.net().deeds()), (net, net.deeds()))
            told = desk.net()
            self.assertEqual(desk.say("deeds"), rows)
            self.assertEqual(desk.say("names"), net.names())
            for name in net.names():
                self.assertEqual(desk.say("circle " + name), net.peer(name).circle().names())
                self.assertEqual(desk.say("knows " + name), [" ".join(map(str, row)) for row in net.peer(name).known()])
                self.assertEqual(len(desk.say("words " + name)), len(net.heard(name)))
                self.assertEqual(len(desk.say("cards " + name)), len(net.peer(name).cards()))
            self.assertEqual((desk.net(), net_of(net_text(desk.net()))), (told, net))


if __name__ == "__main__":
    unittest.main()
