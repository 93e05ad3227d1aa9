"""Finds: a peer of a net looks for a key and fetches its text, and the papers of it."""

from peersmeet.errors import Away, Barred, NoPaper, NotFound, PeerError
from peersmeet.fetching import fetched
from peersmeet.fetchpapers import walked_fetch
from peersmeet.lookpapers import is_tuple, shows_look
from peersmeet.looks import looked, need_asker, need_standing
from peersmeet.marks import need_name
from peersmeet.things import greatest


def find_in(net, asker, key):
    """Let a peer find a key; told are its text, and the paper of it."""
    need_asker(net, asker)
    need_name(key)
    need_standing(net, asker)
    card, look_paper = looked(net, asker, key)
    # The deed was done, whatever is refused from here on.
    net.notes(("find", asker, key))
    if card is None:
        raise NotFound(key)
    if card[3] is None:
        raise Away(key)
    fetch, paper = fetched(net, asker, card)
    return (fetch.text(), (look_paper, paper))


def is_greatest(thing, told):
    """Whether a thing is the greatest card that a look was told, by rows (name, card or None)."""
    cards = [card for _, card in told if card is not None]
    return len(cards) > 0 and thing == greatest(cards)


def text_fetched(card, claims, had, seen, rows):
    """The text of the fetch with these rows, or None where there is none with all pieces."""
    try:
        fetch = walked_fetch(card, claims, rows, had, seen)
    except (PeerError, Barred):
        return None
    return None if fetch is None or fetch.lacking() else fetch.text()


def text_found(thing):
    """The text that the paper of a find shows, or None of any other thing."""
    if not is_tuple(thing, 2) or not shows_look(thing[0]) or not is_tuple(thing[1], 5):
        return None
    _, seek_paper, told = thing[0]
    card, claims, had, seen, rows = thing[1]
    # What is had and was seen are dicts in a paper; a Fetch would take None, too.
    if not is_greatest(card, told) or not all([isinstance(part, dict) for part in (claims, had, seen)]):
        return None
    if seek_paper[0] in claims:
        return None
    return text_fetched(card, claims, had, seen, rows)


def shows_find(thing):
    """Whether any thing is the paper of a find."""
    return text_found(thing) is not None


def text_shown(paper):
    """The text that the paper of a find shows."""
    text = text_found(paper)
    if text is None:
        raise NoPaper(paper)
    return text
