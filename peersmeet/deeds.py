"""Deeds of Cries by their words, for all that has a deed as a row."""

from peersmeet.fetching import fetch_in
from peersmeet.finds import find_in
from peersmeet.looks import look, put, seek


def do_by_word(net, word, things):
    """Do the deed of a word with these things to Cries; told, or refused, is what the deed tells."""
    if word == "stop":
        name, keep = things
        return net.stop(name, keep=keep)
    over = {"seek": seek, "look": look, "put": put, "fetch": fetch_in, "find": find_in}
    if word in over:
        do_over_net = over[word]
        return do_over_net(net, *things)
    own = {
        "begin": net.begin, "enter": net.enter, "leave": net.leave, "back": net.back, "turn": net.turn,
        "cut": net.cut, "heal": net.heal, "lie": net.lie, "round": net.go_round, "rest": net.rest,
        "say": net.say, "come": net.come, "lose": net.lose, "double": net.double, "flow": net.flow,
    }
    deed = own[word]
    return deed(*things)
