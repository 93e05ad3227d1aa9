"""Ways round a circle: one step, a whole way, and whether a list of names shows one."""

from peersmeet.circles import need_name_of
from peersmeet.errors import NoList, NoTruth
from peersmeet.marks import is_list, need_place, way_on

# The words of steps: by the keeper itself, once the way arrived, and until then.
MINE = "mine"
BACK = "back"
ON = "on"


def need_way(circle, name, place):
    """Refuse what is no circle, no name of it, no place."""
    need_name_of(circle, name)
    need_place(place)


def lies_between(middle, start, place):
    """Whether the middle lies behind the start, and ahead of a place, all of them places."""
    return 0 < way_on(start, middle) < way_on(start, place)


def stands_between(circle, name, other, place):
    """Whether the peer of the name stands between the other peer and a place."""
    return lies_between(circle.place(name), circle.place(other), place)


def farthest_finger(circle, name, place):
    """The farthest finger of a name that stands between it and a place, or None."""
    found = None
    # The fingers come in the order round, so the last one that stands between is the farthest.
    for finger in circle.fingers(name):
        if stands_between(circle, finger, name, place):
            found = finger
    return found


def step_of(circle, name, place, *, without=(), arrived=False):
    """What a peer tells who is asked on a way to a place: (word, name, place of this name)."""
    need_way(circle, name, place)
    if not is_list(without):
        raise NoList(without)
    if not isinstance(arrived, bool):
        raise NoTruth(arrived)
    known = circle.without([thing for thing in without if thing != name])
    keeper = known.keeper(place)
    if keeper == name:
        return (MINE, name, known.place(name))
    if arrived:
        return (BACK, keeper, known.place(keeper))
    finger = farthest_finger(known, name, place)
    told = keeper if finger is None else finger
    return (ON, told, known.place(told))


def way_of(circle, name, place):
    """The whole way from a name to the keeper of a place, a list of names."""
    need_way(circle, name, place)
    keeper = circle.keeper(place)
    names = [name]
    while names[-1] != keeper:
        names.append(step_of(circle, names[-1], place)[1])
    return names


def shows_way(circle, name, place, thing):
    """Whether any thing is a list of names that leads from a name to the keeper of a place."""
    need_way(circle, name, place)
    if not is_list(thing) or not all([circle.has(one) for one in thing]):
        return False
    keeper = circle.keeper(place)
    if len(thing) == 0 or thing[0] != name or thing[-1] != keeper or list(thing).count(keeper) != 1:
        return False
    return all([stands_between(circle, thing[at], thing[at - 1], place) for at in range(1, len(thing) - 1)])
