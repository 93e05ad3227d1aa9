"""Points 61 to 67 and 69: nets, who answers whom, turns, coming and going, sides, lies, rounds, deeds, copies."""

import inspect
import itertools
import unittest

from peersmeet import nets
from peersmeet.errors import Alone, Down, NoName, NoNumber, NoOrder, NoPeer, NoPlace, NoSides, NoTruth, NoWord
from peersmeet.errors import Quiet, Stands, Taken, TooMany
from peersmeet.logs import peer_of
from peersmeet.marks import is_name, is_place
from peersmeet.nets import Net
from peersmeet.peers import Peer
from peersmeet.things import card_of, pieces_of
from tests.refusals import RefusalCase, any_things

PLACES = {"ada": 50, "ben": 150, "cy": 240, "dan": 100, "eve": 10, "fay": 20, "gil": 200, "hal": 255}
# The card of `a` is kept at 232, its pieces at 8, 40, 72, 104, 136, 168, 200 and 232.
TEXT = "11111111222222223333333344444444555555556666666677777777abcd"
CARD = card_of("a", 5, "ada", text=TEXT)


def net_of_peers(*names, copies=2):
    """A net in which the names came one behind the other, introduced by the first."""
    net = Net(copies)
    for at, name in enumerate(names):
        if at == 0:
            net.begin(name, PLACES[name])
        else:
            net.enter(name, names[0], PLACES[name])
    return net


def give(net, name, card=CARD, numbers=range(8), text=TEXT):
    """Let a peer have a card and some of its pieces."""
    peer = net.peer_here(name)
    peer.takes(card)
    for at in numbers:
        peer.takes_piece(card[0], at, pieces_of(text)[at])


class NetCase(RefusalCase):
    def setUp(self):
        self.net = net_of_peers("ada", "ben", "cy")

    def words(self, name):
        """What a peer has of others."""
        return {other: word for other, _, _, word in self.net.peer(name).known() if other != name}

    def behind(self, name, many):
        """The last rows of a peer's log."""
        return self.net.peer(name).log()[-many:]

    def kept(self):
        """Of each name that has the card of `a` the numbers of its pieces."""
        return {name: list(self.net.peer(name).pieces("a"))
                for name in self.net.names() if self.net.peer(name).card("a") is not None}

    def stays(self, call, *things, **named):
        """A refused call changes nothing, deeds and logs neither."""
        ahead = self.net.copied()
        self.refusal(call, *things, **named)
        self.assertEqual((self.net, self.net.deeds()), (ahead, ahead.deeds()))
        for name in ahead.names():
            self.assertEqual(self.net.peer(name).log(), ahead.peer(name).log())


class Made(NetCase):
    def test_names_and_methods_of_its_own(self):
        told = {
            "__init__": "(self, copies=2)", "has": "(self, thing)", "answers": "(self, one, other)",
            "begin": "(self, name, place)", "enter": "(self, name, by, place)", "stop": "(self, name, *, keep=True)",
            "cut": "(self, sides)", "lie": "(self, name, word)", "go_round": "(self, order=None)",
            "rest": "(self, order=None)", "notes": "(self, row)", "copy_into": "(self, other)",
            "__eq__": "(self, other)",
        }
        told.update({name: "(self, name)" for name in "peer side lies turn leave back peer_here".split()})
        alone = "copies names standing heal deeds copied marks bare_one __len__"
        told.update({name: "(self)" for name in alone.split()})
        for name, form in told.items():
            self.assertEqual(str(inspect.signature(vars(Net)[name])), form)
        self.assertEqual(Net.__module__, nets.__name__)

    def test_copies(self):
        self.assertEqual([Net().copies()] + [Net(copies).copies() for copies in (1, 2, 3, 4)], [2, 1, 2, 3, 4])
        self.assertEqual(Net(copies=3).copies(), 3)
        self.refuses_all_but(NoNumber, lambda thing: type(thing) is int and 1 <= thing <= 4, Net)
        for thing in (0, 5):
            self.refused(NoNumber, thing, Net, thing)

    def test_at_first_it_has_no_peers(self):
        net = Net()
        self.assertEqual((net.names(), net.standing(), len(net), net.deeds(), net.has("a")), ([], [], 0, [], False))
        self.assertIs(net.go_round(), False)
        self.assertEqual(net.rest([]), 1)
        self.assertEqual(net.deeds(), [("round", None), ("rest", ())])
        self.assertIsInstance(repr(net), str)

    def test_what_it_tells_of_its_peers(self):
        net = net_of_peers("cy", "ben", "ada", "dan")
        net.stop("cy")
        net.leave("ben")
        self.assertEqual((net.names(), net.standing(), len(net)), (["ada", "ben", "cy", "dan"], ["ada", "dan"], 2))
        self.assertEqual([net.side(name) for name in net.names()], [0, 0, 0, 0])
        self.assertEqual([net.lies(name) for name in net.names()], [None] * 4)
        self.assertEqual([net.has(name) for name in net.names()], [True] * 4)
        for thing in any_things():
            self.assertIs(net.has(thing), False)
        self.assertIsInstance(net.peer("ada"), Peer)
        self.assertEqual((net.peer("ada").name(), net.peer("ada").place()), ("ada", 50))

    def test_what_is_told_is_the_askers_own(self):
        self.net.peer("ada").leaves()
        for told in (self.net.names(), self.net.standing(), self.net.deeds()):
            told.clear()
        self.assertEqual(self.net, net_of_peers("ada", "ben", "cy"))
        self.assertEqual((len(self.net), len(self.net.deeds())), (3, 3))

    def test_no_peer(self):
        net = self.net
        is_one = net.has
        for call in (net.peer, net.side, net.lies, net.turn, net.leave, net.back, net.stop):
            self.refuses_all_but(NoPeer, is_one, call)
            self.refused_with(NoPeer, {"found": "dan"}, call, "dan")
            self.stays(call, "dan")
        self.refuses_all_but(NoPeer, is_one, lambda thing: net.answers(thing, None))
        self.refuses_all_but(NoPeer, is_one, lambda thing: net.answers("ada", thing))
        self.refuses_all_but(NoPeer, is_one, lambda thing: net.stop(thing, keep=None))
        self.refuses_all_but(NoPeer, is_one, lambda thing: net.lie(thing, "no"))
        self.assertEqual(net.deeds(), net_of_peers("ada", "ben", "cy").deeds())


class Answers(NetCase):
    def all_answers(self):
        return {(one, other) for one in self.net.names() for other in self.net.names() if self.net.answers(one, other)}

    def pairs(self, *names):
        return set(itertools.permutations(names, 2))

    def test_unlike_peers_that_stand_on_one_side_without_silence(self):
        net = self.net
        self.assertEqual(self.all_answers(), self.pairs("ada", "ben", "cy"))
        self.assertIs(net.answers("ada", "ben"), True)
        self.assertIs(net.answers("ada", "ada"), False)
        for word in ("pieces", "steps", None):
            net.lie("ben", word)
            self.assertEqual(self.all_answers(), self.pairs("ada", "ben", "cy"))
        net.lie("ben", "silence")
        self.assertEqual(self.all_answers(), self.pairs("ada", "cy"))
        net.lie("ben", None)
        net.cut([["ada", "ben"], ["cy"]])
        self.assertEqual(self.all_answers(), self.pairs("ada", "ben"))
        net.stop("ada")
        self.assertEqual(self.all_answers(), set())
        net.heal()
        self.assertEqual(self.all_answers(), self.pairs("ben", "cy"))
        net.leave("ben")
        self.assertEqual(self.all_answers(), set())


class Turns(NetCase):
    def test_it_talks_with_those_that_answer(self):
        net = self.net
        net.peer_here("ada").hears_word(("ada", 1, 1, "hi"))
        net.peer_here("ben").hears_word(("ben", 1, 1, "ho"))
        self.assertIs(net.turn("ada"), None)
        words = [("ada", 1, 1, "hi"), ("ben", 1, 1, "ho")]
        self.assertEqual([net.peer(name).words() for name in ("ada", "ben", "cy")], [words, words[::-1], words])
        self.assertEqual(net.deeds()[-1], ("turn", "ada"))

    def test_those_that_do_not_answer_are_silent_with_their_number(self):
        net = self.net
        net.stop("ben")
        net.turn("ada")
        self.assertEqual(net.peer("ada").known()[1], ("ben", 150, 1, "silent"))
        # On the way ada talks with cy behind that.
        self.assertEqual(self.words("cy"), {"ada": "here", "ben": "silent"})
        net.turn("ada")
        self.assertEqual(self.behind("ada", 1), [("silent", "ben")])

    def test_one_that_is_silent_and_answers_is_here_again(self):
        net = self.net
        net.cut([["ada"], ["ben", "cy"]])
        net.turn("ada")
        self.assertEqual(self.words("ada"), {"ben": "silent", "cy": "silent"})
        net.heal()
        net.turn("ada")
        self.assertEqual(net.peer("ada").known(), [
            ("ada", 50, 1, "here"), ("ben", 150, 2, "here"), ("cy", 240, 2, "here")])
        self.assertEqual(net.peer("cy").known(), net.peer("ada").known())
        # ben was tried ahead of cy, and hears of it by and by.
        self.assertEqual(self.words("ben"), {"ada": "here", "cy": "silent"})

    def test_one_that_is_gone_is_not_tried(self):
        net = self.net
        net.leave("ben")
        net.turn("ada")
        self.assertEqual(self.words("ada"), {"ben": "gone", "cy": "here"})
        self.assertEqual([row for row in net.peer("ada").log() if row[0] == "silent"], [])

    def test_one_that_is_gone_is_not_tried_whether_it_answers_or_not(self):
        net = self.net
        net.peer_here("ben").leaves()
        net.turn("ada")
        net.peer_here("ben").hears_word(("ben", 1, 1, ""))
        net.turn("ada")
        self.assertEqual((self.words("ada")["ben"], net.peer("ada").words()), ("gone", []))

    def test_one_of_which_it_hears_on_the_way_is_tried(self):
        net = net_of_peers("cy", "ada", "ben")
        net.cut([["cy"], ["ada"], ["ben"]])
        net.turn("cy")
        net.heal()
        # dan knows just cy, hears by it of two that are silent, and tries them.
        net.enter("dan", "cy", 100)
        self.assertEqual(net.peer("dan").known(), [
            ("ada", 50, 2, "here"), ("ben", 150, 2, "here"), ("cy", 240, 1, "here"), ("dan", 100, 1, "here")])
        for name in ("ada", "ben", "cy"):
            self.assertEqual(net.peer(name).word("dan"), "here")
        self.assertEqual(net.peer("dan").log()[2:], [
            ("heard", "ada", 50, 1, "silent"), ("heard", "ben", 150, 1, "silent"),
            ("heard", "ada", 50, 2, "here"), ("heard", "ben", 150, 2, "here")])

    def test_one_that_did_not_answer_and_is_here_again_by_another_is_tried_again(self):
        net = self.net
        net.stop("ben")
        # cy has heard of a later number of ben than ada.
        net.peer_here("cy").hears("ben", 150, 4, "here")
        net.turn("ada")
        self.assertEqual(net.peer("ada").known()[1], ("ben", 150, 4, "silent"))
        self.assertEqual(self.behind("ada", 3), [
            ("silent", "ben"), ("heard", "ben", 150, 4, "here"), ("silent", "ben")])

    def test_one_that_answered_and_is_silent_by_another_is_tried_again(self):
        net = self.net
        net.peer_here("cy").silent("ben")
        net.turn("ada")
        self.assertEqual(net.peer("ada").known()[1], ("ben", 150, 2, "here"))
        self.assertEqual(net.peer("ben").number(), 2)
        self.assertEqual(self.behind("ada", 2), [("heard", "ben", 150, 1, "silent"), ("heard", "ben", 150, 2, "here")])

    def test_one_that_lies_by_silence_has_all_others_silent(self):
        self.net.lie("ada", "silence")
        self.net.turn("ada")
        self.assertEqual(self.words("ada"), {"ben": "silent", "cy": "silent"})

    def test_wrongs_are_forgotten_by_turns(self):
        net = self.net
        net.peer_here("ada").saw("ben")
        for left in (4, 3, 2, 1):
            net.turn("ada")
            self.assertEqual(net.peer("ada").wrongs(), {"ben": (1, left)})
        net.turn("ben")
        net.turn("ada")
        self.assertEqual((net.peer("ada").wrongs(), self.behind("ada", 1)), ({}, [("turn",)]))

    def test_down(self):
        for deed in (self.net.stop, self.net.leave):
            deed("ben" if deed == self.net.stop else "cy")
        for name in ("ben", "cy"):
            self.refused_with(Down, {"found": name}, self.net.turn, name)
            self.stays(self.net.turn, name)


class LettingGo(NetCase):
    def test_pieces_and_cards_go_where_all_their_keepers_have_them(self):
        self.net = net_of_peers("ada", "ben", "cy", copies=1)
        give(self.net, "ben")
        self.net.turn("ben")
        self.assertEqual(self.kept(), {"ada": [0, 1], "ben": [2, 3, 4], "cy": [5, 6, 7]})
        self.assertEqual(self.behind("ben", 5), [("less", "a", at) for at in (0, 1, 5, 6, 7)])
        self.net = net_of_peers("ada", "ben", "cy", copies=1)
        short = card_of("a", 5, "ada", text="x" * 16)
        give(self.net, "ben", short, [0, 1], "x" * 16)
        self.net.turn("ben")
        self.assertEqual(self.kept(), {"ada": [0, 1], "cy": []})
        self.assertEqual(self.behind("ben", 3), [("less", "a", 0), ("less", "a", 1), ("dropped", "a")])
        self.assertIs(self.net.go_round(), False)

    def test_with_two_copies(self):
        give(self.net, "ben")
        self.net.turn("ben")
        self.assertEqual(self.kept(), {"ada": [0, 1, 5, 6, 7], "ben": [0, 1, 2, 3, 4], "cy": [2, 3, 4, 5, 6, 7]})

    def test_keys_and_numbers_rise(self):
        self.net = net_of_peers("ada", "ben", "cy", copies=1)
        give(self.net, "ben", card_of("zz", 1, "ada"), [])
        give(self.net, "ben", card_of("a", 1, "ada"), [])
        give(self.net, "ben", card_of("b", 1, "ada"), [])
        self.net.turn("ben")
        told = {key: self.net.peer("ben").card(key) for key in ("a", "b", "zz")}
        self.assertEqual([row[1] for row in self.net.peer("ben").log() if row[0] == "dropped"],
                         [key for key in ("a", "b", "zz") if told[key] is None])
        self.assertIsNone(told["a"])

    def test_a_keeper_keeps_and_one_alone_keeps_all(self):
        self.net = net_of_peers("ada", copies=1)
        give(self.net, "ada")
        self.net.turn("ada")
        self.assertEqual(self.kept(), {"ada": list(range(8))})

    def test_a_piece_is_kept_as_one_of_its_keepers_lacks_it(self):
        net = self.net = net_of_peers("ada", "ben", "cy", "dan", copies=1)
        net.stop("dan")
        give(net, "cy")
        net.turn("cy")
        # Piece 2 was dan's when ben was tried, and is ben's behind that.
        self.assertEqual(self.kept(), {"ada": [0, 1], "ben": [3, 4], "cy": [2, 5, 6, 7]})
        net.turn("cy")
        self.assertEqual(self.kept(), {"ada": [0, 1], "ben": [2, 3, 4], "cy": [5, 6, 7]})

    def test_a_piece_is_kept_as_one_of_several_keepers_lacks_it(self):
        net = self.net = net_of_peers("ada", "ben", "cy", "dan", "gil", copies=2)
        net.stop("dan")
        give(net, "cy")
        net.turn("cy")
        # Piece 2 was dan's and ben's when gil was tried; gil hears at once that dan is silent, ben doesn't.
        self.assertEqual(self.kept()["ben"], [2, 3, 4])
        self.assertEqual(self.kept()["gil"], [2, 3, 4, 5, 6])
        self.assertEqual(self.kept()["ada"], [0, 1, 7])
        self.assertEqual(self.kept()["cy"], [0, 1, 5, 6, 7])
        net.turn("cy")
        self.assertEqual(self.kept()["ben"], [0, 1, 2, 3, 4])
        self.assertEqual(self.kept()["cy"], [5, 6, 7])

    def test_a_card_is_kept_as_one_of_its_keepers_lacks_it(self):
        for card in (card_of("a", 1, "me"), card_of("a", 1, "me", text="")):
            net = self.net = net_of_peers("ada", "ben", "cy", copies=1)
            net.stop("cy")
            give(net, "ben", card, [])
            net.turn("ben")
            # It was cy's when ada was tried, and is ada's behind that.
            self.assertEqual(self.kept(), {"ben": []})
            net.turn("ben")
            self.assertEqual(self.kept(), {"ada": []})

    def test_a_card_is_kept_with_a_piece_of_it(self):
        net = self.net = net_of_peers("ada", "ben", "cy", "dan", copies=1)
        net.stop("dan")
        card = card_of("a", 1, "me", text="x" * 24)
        give(net, "cy", card, [2], "x" * 24)
        net.turn("cy")
        self.assertEqual(self.kept(), {"ada": [], "cy": [2]})

    def test_a_card_is_kept_with_a_piece_of_it_where_all_its_keepers_have_the_card(self):
        net = self.net = net_of_peers("ada", "ben", "cy", "dan", "gil", copies=1)
        net.stop("dan")
        give(net, "gil", card_of("a", 1, "me", text="x" * 32), [2], "x" * 32)
        net.turn("gil")
        self.assertEqual(self.kept(), {"ada": [], "ben": [], "cy": [], "gil": [2]})

    def test_a_piece_is_kept_as_a_keeper_has_one_of_an_elder_card(self):
        net = self.net = Net(2)
        net.begin("zed", 120)
        for name, place in (("ada", 80), ("ben", 200), ("dan", 100)):
            net.enter(name, "zed", place)
        for name in ("ada", "ben", "zed"):
            net.peer_here(name).silent("dan")
        elder = card_of("a", 1, "me", text=TEXT)
        give(net, "ada", elder, [2])
        give(net, "ben", CARD, [2])
        net.turn("zed")
        # ada was tried ahead of ben, and dan, whose piece 2 is now, behind it.
        self.assertEqual((net.peer("ada").card("a"), net.peer("dan").card("a")), (elder, CARD))
        self.assertEqual(self.kept(), {"ada": [2], "ben": [2], "dan": [2], "zed": [2]})
        net.turn("zed")
        self.assertEqual(self.kept(), {"ada": [2], "ben": [2], "dan": [2], "zed": []})

    def test_pieces_of_unlike_texts_with_equal_marks_count_as_one(self):
        net = self.net = net_of_peers("ada", "ben", "cy", copies=1)
        give(net, "ben", card_of("a", 5, "ada", text="bdb"), [0], "bdb")
        give(net, "ada", card_of("a", 5, "ada", text="bdb"), [0], "cbc")
        net.turn("ben")
        self.assertEqual(net.peer("ada").pieces("a"), {0: "cbc"})
        self.assertEqual(self.kept(), {"ada": [0], "cy": []})

    def test_what_others_keep_goes_behind_a_cut(self):
        net = self.net
        give(net, "ben")
        net.cut([["ben"], ["ada", "cy"]])
        net.turn("ben")
        self.assertEqual(self.kept(), {"ben": list(range(8))})
        net.heal()
        net.turn("ada")
        # ada lets go what it doesn't keep, ben does so in a turn of its own.
        self.assertEqual(self.kept(), {"ada": [0, 1, 5, 6, 7], "ben": list(range(8)), "cy": [2, 3, 4, 5, 6, 7]})
        net.turn("ben")
        self.assertEqual(self.kept(), {"ada": [0, 1, 5, 6, 7], "ben": [0, 1, 2, 3, 4], "cy": [2, 3, 4, 5, 6, 7]})


class Comes(NetCase):
    def test_the_first_peer(self):
        net = Net()
        self.assertIs(net.begin("ada", 50), None)
        self.assertEqual((net.names(), net.standing()), (["ada"], ["ada"]))
        self.assertEqual((net.peer("ada"), net.peer("ada").log()), (Peer("ada", 50), [("born", "ada", 50)]))
        self.assertEqual(net.deeds(), [("begin", "ada", 50)])

    def test_a_second_beginning(self):
        self.refused_with(TooMany, {"many": 1}, self.net.begin, "dan", 1)
        self.stays(self.net.begin, "ada", 50)
        net = Net()
        net.begin("ada", 50)
        net.leave("ada")
        self.refused_with(TooMany, {"many": 1}, net.begin, "ben", 1)

    def test_begin_is_refused_in_the_order_of_the_interface(self):
        for net in (Net(), self.net):
            self.refuses_all_but(NoName, is_name, lambda thing: net.begin(thing, 256))
            self.refuses_all_but(NoPlace, is_place, lambda thing: net.begin("a", thing))
        self.stays(self.net.begin, "a", 256)

    def test_enter(self):
        net = Net()
        net.begin("ben", 150)
        net.peer_here("ben").hears("ben", 150, 7, "here")
        self.assertIs(net.enter("ada", "ben", 50), None)
        self.assertEqual(net.peer("ada").log(), [("born", "ada", 50), ("heard", "ben", 150, 7, "here")])
        self.assertEqual(net.peer("ben").log()[2:], [("heard", "ada", 50, 1, "here")])
        self.assertEqual(net.deeds()[1:], [("enter", "ada", "ben", 50)])
        net.enter("cy", "ada", 240)
        self.assertEqual(net.peer("cy").known(), net.peer("ben").known())
        self.assertEqual(net.peer("ben").word("cy"), "here")

    def test_who_enters_has_a_turn_and_takes_what_is_its_own(self):
        net = self.net = net_of_peers("ada", copies=1)
        give(net, "ada")
        net.enter("ben", "ada", 150)
        self.assertEqual(self.kept(), {"ada": list(range(8)), "ben": [2, 3, 4]})

    def test_who_enters_stands_on_the_side_of_the_introducer(self):
        net = self.net
        net.cut([["ada"], ["ben", "cy"]])
        net.enter("dan", "cy", 100)
        self.assertEqual(net.side("dan"), 1)
        self.assertEqual(self.words("dan"), {"ada": "silent", "ben": "here", "cy": "here"})
        self.assertEqual(self.words("ada"), {"ben": "here", "cy": "here"})

    def test_two_at_one_place(self):
        net = self.net
        net.enter("dan", "ada", 50)
        self.assertEqual(net.peer("ben").circle().peers(), [("ada", 50), ("dan", 50), ("ben", 150), ("cy", 240)])

    def test_enter_is_refused_in_the_order_of_the_interface(self):
        net = self.net
        self.refuses_all_but(NoName, is_name, lambda thing: net.enter(thing, None, 256))
        self.refuses_all_but(NoPeer, net.has, lambda thing: net.enter("ada", thing, 256))
        self.refuses_all_but(NoPlace, is_place, lambda thing: net.enter("ada", "ben", thing))
        self.assertEqual(len(net.deeds()), 3)

    def test_taken_then_too_many_then_quiet(self):
        net = self.net
        net.stop("ada")
        net.leave("ben")
        for name in ("ada", "ben", "cy"):
            self.refused_with(Taken, {"found": name}, net.enter, name, "ada", 0)
        for name in ("ada", "ben"):
            self.refused_with(Quiet, {"found": name}, net.enter, "dan", name, 0)
        net.lie("cy", "silence")
        self.refused_with(Quiet, {"found": "cy"}, net.enter, "dan", "cy", 0)
        self.stays(net.enter, "dan", "cy", 0)
        net.lie("cy", "pieces")
        for name in ("dan", "eve", "fay", "gil", "hal"):
            net.enter(name, "cy", PLACES[name])
        self.assertEqual(len(net.names()), 8)
        self.refused_with(TooMany, {"many": 9}, net.enter, "ida", "ada", 0)
        self.refused_with(Taken, {"found": "gil"}, net.enter, "gil", "ada", 0)
        self.stays(net.enter, "ida", "cy", 0)


class Goes(NetCase):
    def test_who_leaves_tells_the_others(self):
        net = self.net
        give(net, "ben", card_of("a", 1, "ada"), [])
        self.assertIs(net.leave("ben"), None)
        self.assertEqual((net.standing(), net.names()), (["ada", "cy"], ["ada", "ben", "cy"]))
        self.assertEqual([net.peer(name).word("ben") for name in net.names()], ["gone"] * 3)
        # What it had is taken by those whose it is.
        self.assertEqual(self.kept(), {"ada": [], "ben": [], "cy": []})
        self.assertEqual(net.deeds()[-1], ("leave", "ben"))

    def test_who_leaves_tries_each_name_that_is_here_once(self):
        net = self.net
        net.stop("ada")
        net.leave("ben")
        self.assertEqual(self.words("ben"), {"ada": "silent", "cy": "here"})
        self.assertEqual(self.words("cy"), {"ada": "silent", "ben": "gone"})
        self.assertEqual(self.words("ada"), {"ben": "here", "cy": "here"})

    def test_who_leaves_tries_one_of_which_it_hears_on_the_way(self):
        net = net_of_peers("cy", "ben")
        net.cut([["cy"], ["ben"]])
        net.enter("ada", "cy", 50)
        net.heal()
        # ben doesn't know ada yet, and hears of it by cy; cy is here for it again by its turn's number.
        self.assertEqual([name for name, _, _, _ in net.peer("ben").known()], ["ben", "cy"])
        net.leave("ben")
        self.assertEqual([net.peer(name).word("ben") for name in ("ada", "cy")], ["gone", "gone"])

    def test_one_that_is_silent_is_not_told(self):
        net = self.net
        net.peer_here("ben").silent("ada")
        net.peer_here("cy").silent("ada")
        net.leave("ben")
        self.assertEqual([net.peer(name).word("ben") for name in ("ada", "cy")], ["here", "gone"])

    def test_who_leaves_alone_or_by_silence(self):
        net = self.net
        net.lie("ben", "silence")
        net.leave("ben")
        self.assertEqual(self.words("ben"), {"ada": "silent", "cy": "silent"})
        self.assertEqual(self.words("ada"), {"ben": "here", "cy": "here"})
        alone = net_of_peers("ada")
        alone.leave("ada")
        self.assertEqual((alone.standing(), alone.peer("ada").known()), ([], [("ada", 50, 1, "gone")]))

    def test_leave_and_stop_are_refused_where_it_is_down(self):
        net = self.net
        net.leave("ben")
        net.stop("cy")
        for name in ("ben", "cy"):
            for call in (net.leave, net.stop, lambda one: net.stop(one, keep=False)):
                self.refused_with(Down, {"found": name}, call, name)
                self.stays(call, name)

    def test_stop_with_what_is_kept_and_without(self):
        net = self.net
        for name in ("ada", "ben", "cy"):
            give(net, name)
            net.peer_here(name).hears_word(("ada", 1, 1, ""))
            net.peer_here(name).saw("ada")
        self.assertIs(net.stop("ada"), None)
        net.stop("ben", keep=True)
        net.stop("cy", keep=False)
        self.assertEqual(net.standing(), [])
        self.assertEqual(self.kept(), {"ada": list(range(8)), "ben": list(range(8))})
        self.assertEqual([len(net.peer(name).words()) for name in net.names()], [1, 1, 0])
        self.assertEqual([net.peer(name).wrongs() for name in net.names()], [{"ada": (1, 5)}] * 3)
        self.assertEqual(self.words("cy"), {"ada": "here", "ben": "here"})
        self.assertEqual(net.deeds()[3:], [("stop", "ada", True), ("stop", "ben", True), ("stop", "cy", False)])
        self.assertEqual(self.behind("cy", 1), [("forgot",)])

    def test_no_truth_goes_ahead_of_down(self):
        net = self.net
        net.stop("ada")
        for name in ("ada", "ben"):
            self.refuses_all_but(NoTruth, lambda thing: isinstance(thing, bool), lambda thing: net.stop(name, keep=thing))
        self.stays(net.stop, "ben", keep=1)

    def test_back(self):
        net = self.net
        net.cut([["ada", "ben"], ["cy"]])
        net.stop("ben")
        net.turn("ada")
        self.assertIs(net.back("ben"), None)
        self.assertEqual((net.standing(), net.side("ben"), net.peer("ben").number()), (["ada", "ben", "cy"], 0, 2))
        self.assertEqual(net.peer("ada").known(), [
            ("ada", 50, 1, "here"), ("ben", 150, 2, "here"), ("cy", 240, 1, "silent")])
        self.assertEqual(net.peer("ben").known(), net.peer("ada").known())
        self.assertEqual(self.behind("ben", 2)[0], ("back",))
        self.assertEqual(net.deeds()[-1], ("back", "ben"))

    def test_back_is_refused(self):
        net = self.net
        net.leave("ben")
        self.refused_with(Stands, {"found": "ada"}, net.back, "ada")
        self.refused_with(NoPeer, {"found": "ben"}, net.back, "ben")
        for name in ("ada", "ben"):
            self.stays(net.back, name)


class Sides(NetCase):
    def sides(self):
        return [self.net.side(name) for name in self.net.names()]

    def test_cut_into_two_and_as_many_as_peers_anew_and_healed(self):
        net = self.net
        self.assertIs(net.cut([["cy", "ada"], ["ben"]]), None)
        self.assertEqual(self.sides(), [0, 1, 0])
        net.cut((("ben",), ["cy"], ["ada"]))
        self.assertEqual(self.sides(), [2, 0, 1])
        net.cut([["ada"], ("cy", "ben")])
        self.assertEqual(self.sides(), [0, 1, 1])
        self.assertIs(net.heal(), None)
        self.assertEqual(self.sides(), [0, 0, 0])
        net.heal()
        self.assertEqual(net.deeds()[3:], [
            ("cut", (("cy", "ada"), ("ben",))), ("cut", (("ben",), ("cy",), ("ada",))),
            ("cut", (("ada",), ("cy", "ben"))), ("heal",), ("heal",)])

    def test_those_that_are_down_have_sides_too(self):
        net = self.net
        net.stop("ada")
        net.leave("ben")
        self.refused_with(NoSides, {"found": [["ada"], ["cy"]]}, net.cut, [["ada"], ["cy"]])
        net.cut([["ada", "cy"], ["ben"]])
        self.assertEqual(self.sides(), [0, 1, 0])

    def test_eight_sides(self):
        net = self.net = net_of_peers(*PLACES)
        net.cut([[name] for name in reversed(net.names())])
        self.assertEqual(self.sides(), [7, 6, 5, 4, 3, 2, 1, 0])

    def test_alone_goes_ahead_of_no_sides(self):
        for net, many in ((Net(), 0), (net_of_peers("ada"), 1)):
            for sides in any_things() + [[["ada"]], [["ada"], []]]:
                self.refused_with(Alone, {"found": many}, net.cut, sides)

    def test_no_sides(self):
        self.refuses_all_but(NoSides, lambda thing: False, self.net.cut)
        all_names = ["ada", "ben", "cy"]
        wrong = [
            [all_names], [all_names, []], [["ada"], ["ben"]], [["ada"], ["ben"], ["cy"], []], [["ada", "ben"], ["ben", "cy"]],
            [["ada", "ben"], "cy"], [["ada", "ben"], ["cy", "dan"]], [["ada", "ben"], ["cy", None]], ["ada", "ben", "cy"],
            [["ada", "ben"], ["cy", "cy"]], [["ada", "ben"], [["cy"]]], {0: ["ada"], 1: ["ben", "cy"]},
            [["ada", "ben"], {"cy": 1}], [["ada", "ben", "cy"], ["ada", "ben", "cy"]], [[1, 2], [3]],
        ]
        for sides in wrong:
            self.refused(NoSides, sides, self.net.cut, sides)
            self.stays(self.net.cut, sides)

    def test_sides_that_are_handed_in_stay(self):
        sides = [["cy", "ada"], ["ben"]]
        self.net.cut(sides)
        self.assertEqual(sides, [["cy", "ada"], ["ben"]])
        sides[0].clear()
        self.assertEqual((self.sides(), self.net.deeds()[-1]), ([0, 1, 0], ("cut", (("cy", "ada"), ("ben",)))))


class Lies(NetCase):
    def test_words_and_none(self):
        net = self.net
        for word in ("pieces", "steps", "silence", None, None):
            self.assertIs(net.lie("ben", word), None)
            self.assertEqual(net.lies("ben"), word)
            self.assertEqual(net.deeds()[-1], ("lie", "ben", word))
        self.assertEqual(net.lies("ada"), None)

    def test_one_that_is_silent_no_more_has_a_turn_at_once(self):
        for word in ("pieces", "steps", None):
            net = self.net = net_of_peers("ada", "ben", "cy")
            net.lie("ben", "silence")
            net.rest()
            self.assertEqual(self.words("ada")["ben"], "silent")
            net.lie("ben", word)
            self.assertEqual(net.peer("ada").known()[1], ("ben", 150, 2, "here"))
            self.assertEqual(net.deeds()[-1], ("lie", "ben", word))

    def test_no_turn_where_it_lies_on_or_another_lie_ends_or_it_does_not_stand(self):
        net = self.net
        net.lie("ben", "silence")
        net.rest()
        net.lie("ben", "silence")
        self.assertEqual(self.words("ada")["ben"], "silent")
        self.assertEqual(self.words("ben"), {"ada": "here", "cy": "here"})
        net.stop("ben")
        net.lie("ben", None)
        self.assertEqual((self.words("ada")["ben"], net.lies("ben")), ("silent", None))
        self.assertEqual(self.words("ben"), {"ada": "here", "cy": "here"})
        net.peer_here("cy").saw("ada")
        for word in ("steps", "pieces", None, None):
            net.lie("cy", word)
        self.assertEqual(net.peer("cy").wrongs(), {"ada": (1, 5)})

    def test_no_word(self):
        self.refuses_all_but(NoWord, lambda thing: thing is None, lambda thing: self.net.lie("ben", thing))
        for word in ("piece", "Steps", "silence ", "silent", "none"):
            self.refused_with(NoWord, {"found": word}, self.net.lie, "ben", word)
            self.stays(self.net.lie, "ben", word)


class Rounds(NetCase):
    def test_a_round_is_a_turn_of_each(self):
        other = self.net.copied()
        for net in (self.net, other):
            net.peer_here("cy").silent("ada")
            net.peer_here("ben").saw("cy")
        self.assertIs(self.net.go_round(), True)
        for name in ("ada", "ben", "cy"):
            other.turn(name)
        self.assertEqual(self.net, other)
        self.assertEqual([self.net.peer(name).log() for name in other.names()],
                         [other.peer(name).log() for name in other.names()])

    def test_in_an_order(self):
        other = self.net.copied()
        for net in (self.net, other):
            net.stop("ben")
            net.back("ben")
            give(net, "ben")
            net.peer_here("cy").silent("ada")
        self.net.go_round(["cy", "ada", "ben"])
        for name in ("cy", "ada", "ben"):
            other.turn(name)
        self.assertEqual(self.net, other)
        self.assertEqual(self.net.peer("ada").log(), other.peer("ada").log())

    def test_whether_anything_changed(self):
        net = self.net
        self.assertIs(net.go_round(), False)
        net.peer_here("ada").saw("ben")
        self.assertEqual([net.go_round() for _ in range(6)], [True] * 5 + [False])
        net.peer_here("ada").hears_word(("ada", 1, 1, ""))
        self.assertEqual([net.go_round() for _ in range(2)], [True, False])
        give(net, "cy")
        self.assertEqual([net.go_round() for _ in range(2)], [True, False])

    def test_those_that_are_down_or_lie_by_silence_have_no_turn(self):
        net = self.net
        net.enter("dan", "ada", 100)
        net.stop("ada")
        net.lie("ben", "silence")
        for name in ("ada", "ben", "cy"):
            net.peer_here(name).saw("dan")
        net.lie("dan", "steps")
        net.go_round()
        self.assertEqual([net.peer(name).wrongs()["dan"][1] for name in ("ada", "ben", "cy")], [5, 5, 4])
        net.go_round(["dan", "cy"])
        for order in (["ada", "cy", "dan"], ["ben", "cy", "dan"], ["cy"], [], ["cy", "dan", "dan"], ["cy", "eve"]):
            self.refused(NoOrder, order, net.go_round, order)
            self.refused(NoOrder, order, net.rest, order)

    def test_no_order(self):
        for call in (self.net.go_round, self.net.rest):
            self.refuses_all_but(NoOrder, lambda thing: thing is None, call)
            for order in (["ada", "ben", None], {"ada": 1, "ben": 2, "cy": 3}, "ada", ["ada", ["ben"], "cy"]):
                self.refused(NoOrder, order, call, order)
                self.stays(call, order)

    def test_rest(self):
        net = self.net
        self.assertEqual(net.rest(), 1)
        net.peer_here("ada").saw("ben")
        self.assertEqual(net.rest(["cy", "ben", "ada"]), 6)
        net.cut([["ada"], ["ben", "cy"]])
        net.go_round()
        net.heal()
        self.assertIn(net.rest(order=("ben", "cy", "ada")), (2, 3))
        self.assertEqual([net.peer(name).known() for name in net.names()], [net.peer("ada").known()] * 3)
        self.assertEqual(net.rest(None), 1)

    def test_orders_that_are_handed_in_stay(self):
        order = ["cy", "ben", "ada"]
        self.net.go_round(order)
        self.net.rest(order)
        self.assertEqual(order, ["cy", "ben", "ada"])
        order.clear()
        self.assertEqual(self.net.deeds()[3:], [("round", ("cy", "ben", "ada")), ("rest", ("cy", "ben", "ada"))])


class DeedsAndCopies(NetCase):
    def test_the_deeds_row_by_row(self):
        net = Net(3)
        net.begin("ada", 50)
        net.enter("ben", "ada", 150)
        net.enter("cy", "ben", 240)
        net.turn("cy")
        net.stop("ben", keep=False)
        net.back("ben")
        net.stop("ben")
        net.cut([["ada", "cy"], ("ben",)])
        net.go_round()
        net.go_round(["cy", "ada"])
        net.heal()
        net.lie("ada", "silence")
        net.lie("ada", None)
        net.rest()
        net.rest(("ada", "cy"))
        net.leave("ada")
        told = [
            ("begin", "ada", 50), ("enter", "ben", "ada", 150), ("enter", "cy", "ben", 240), ("turn", "cy"),
            ("stop", "ben", False), ("back", "ben"), ("stop", "ben", True), ("cut", (("ada", "cy"), ("ben",))),
            ("round", None), ("round", ("cy", "ada")), ("heal",), ("lie", "ada", "silence"), ("lie", "ada", None),
            ("rest", None), ("rest", ("ada", "cy")), ("leave", "ada"),
        ]
        self.assertEqual(net.deeds(), told)
        for row in net.deeds():
            self.assertIs(type(row), tuple)

    def test_a_peer_is_what_its_log_makes_of_it(self):
        net = self.net
        give(net, "ben")
        net.lie("ada", "silence")
        net.rest()
        net.lie("ada", None)
        net.leave("cy")
        for name in net.names():
            self.assertEqual(peer_of(net.peer(name).log()), net.peer(name))

    def test_a_copy_stands_just_so_and_goes_its_own_way(self):
        def made():
            net = net_of_peers("ada", "ben", "cy")
            give(net, "ben")
            net.lie("ada", "pieces")
            net.cut([["ada", "ben"], ["cy"]])
            net.stop("ben")
            return net
        net = made()
        copy = net.copied()
        self.assertIs(type(copy), Net)
        self.assertEqual((copy, copy.deeds(), copy.marks()), (made(), made().deeds(), made().marks()))
        self.assertEqual([copy.peer(name).log() for name in copy.names()],
                         [made().peer(name).log() for name in copy.names()])
        deeds = [lambda one: one.cut([["cy", "ada"], ["ben"]]), lambda one: one.heal(), lambda one: one.rest(),
                 lambda one: one.back("ben"), lambda one: one.lie("ada", None), lambda one: one.leave("cy"),
                 lambda one: one.enter("dan", "ada", 100), lambda one: one.stop("ada", keep=False)]
        for deed in deeds:
            net, copy = made(), made().copied()
            other = copy.copied()
            deed(other)
            self.assertEqual((copy, copy.deeds()), (net, net.deeds()))
            deed(copy)
            self.assertEqual((net, net.deeds()), (made(), made().deeds()))
            self.assertEqual((copy, copy.deeds()), (other, other.deeds()))

    def test_a_bare_one_and_what_is_laid_on_another_net(self):
        net = net_of_peers("ada", "ben", copies=3)
        bare = net.bare_one()
        self.assertIs(type(bare), Net)
        self.assertEqual((bare, bare.deeds()), (Net(3), []))
        other = net_of_peers("cy", "dan", copies=1)
        self.assertIs(net.copy_into(other), None)
        self.assertEqual((other.copies(), other.names(), other.deeds()), (1, ["ada", "ben"], net.deeds()))
        other.leave("ada")
        self.assertEqual(net, net_of_peers("ada", "ben", copies=3))

    def test_the_very_peer_and_a_deed_put_behind(self):
        self.net.peer_here("ada").takes(CARD)
        self.assertEqual(self.net.peer("ada").card("a"), CARD)
        self.assertIs(self.net.notes(("seek", "ada", 7)), None)
        self.assertEqual(self.net.deeds()[3:], [("seek", "ada", 7)])

    def unlike(self):
        """Nets of which no two are equal."""
        yield Net()
        yield Net(1)
        yield net_of_peers("ada", "ben", copies=3)
        deeds = [
            lambda net: None, lambda net: net.stop("ada"), lambda net: net.leave("ada"), lambda net: net.stop("ben"),
            lambda net: net.lie("ada", "pieces"), lambda net: net.lie("ada", "steps"),
            lambda net: net.lie("ada", "silence"), lambda net: net.lie("ben", "steps"),
            lambda net: net.cut([["ada"], ["ben"]]), lambda net: net.cut([["ben"], ["ada"]]),
            lambda net: give(net, "ada"), lambda net: give(net, "ben"), lambda net: give(net, "ada", numbers=[0]),
            lambda net: net.enter("cy", "ben", 0), lambda net: net.enter("cy", "ben", 1),
            lambda net: net.peer_here("ada").saw("ben"), lambda net: net.peer_here("ada").leaves(),
            lambda net: (net.peer_here("ada").leaves(), net.stop("ada")),
        ]
        for deed in deeds:
            net = net_of_peers("ada", "ben")
            deed(net)
            yield net

    def test_equal_are_just_those_with_equal_peers_sides_and_lies(self):
        for (at, one), (by, other) in itertools.product(enumerate(self.unlike()), enumerate(self.unlike())):
            self.assertIs(one == other, at == by, (at, by))
            self.assertIs(one.marks() == other.marks(), at == by, (at, by))
            self.assertIsInstance(hash(one.marks()), int)
        for thing in any_things() + [self.net.marks(), self.net.deeds()]:
            self.assertFalse(self.net == thing)

    def test_equal_whatever_their_deeds_and_logs(self):
        other = self.net.copied()
        for deed in (other.heal, other.go_round, other.rest):
            deed()
        other.lie("ada", "steps")
        other.lie("ada", None)
        self.assertEqual((self.net, self.net.marks()), (other, other.marks()))
        self.assertNotEqual(self.net.deeds(), other.deeds())

    def test_marks_are_made_of_plain_things(self):
        def look_at(thing):
            if isinstance(thing, tuple):
                for part in thing:
                    look_at(part)
            else:
                self.assertIn(type(thing), (int, str, bool, type(None)))
        give(self.net, "ada")
        self.net.peer_here("ada").takes(("b", 1, "ada", None))
        self.net.peer_here("ada").saw("ben")
        self.net.peer_here("ada").hears_word(("ada", 1, 1, ""))
        self.assertIsInstance(self.net.marks(), tuple)
        look_at(self.net.marks())


if __name__ == "__main__":
    unittest.main()
