"""Orders: all ways in which tasks are done and letters come in small worlds, and where they end."""

from peersmeet.cries import Cries
from peersmeet.deeds import do_by_word
from peersmeet.errors import Absent, Barred, NoCries, NoList, NoOrder, NotThere, NoTask, PeerError, TooMany
from peersmeet.marks import is_list, need_whole

# The words of tasks, and how many things stand behind each.
TASK_THINGS = {
    "turn": 1, "back": 1, "leave": 1, "stop": 2, "begin": 2, "enter": 3, "cut": 1, "heal": 0,
    "lie": 2, "say": 2, "put": 3, "round": 0, "rest": 0,
}
MOST_ROWS = 4
MOST_TASKS = 8
# How many letters may be lost, and how many doubled, at most.
MOST_LETTERS = 3
MOST_MOMENTS = 2000

# The words of steps.
TASK = "task"
COME = "come"
LOSE = "lose"
DOUBLE = "double"


def is_task(thing):
    """Whether any thing is a task."""
    if not isinstance(thing, tuple) or len(thing) == 0 or not isinstance(thing[0], str):
        return False
    return thing[0] in TASK_THINGS and len(thing) == TASK_THINGS[thing[0]] + 1


def need_rows(rows):
    """Refuse what are no rows of tasks, or too many of these."""
    if not is_list(rows) or len(rows) > MOST_ROWS:
        raise NoList(rows)
    for row in rows:
        if not is_list(row):
            raise NoList(row)
        for task in row:
            if not is_task(task):
                raise NoTask(task)
    many = sum([len(row) for row in rows])
    if many > MOST_TASKS:
        raise TooMany(many)


def kept(thing):
    """A copy of any thing with tuples in the place of lists."""
    if is_list(thing):
        return tuple([kept(part) for part in thing])
    if isinstance(thing, dict):
        return {key: kept(part) for key, part in thing.items()}
    return thing


def is_same(one, other):
    """Whether two things are equal, and no truth stands in the one where the other has a number."""
    if isinstance(one, tuple) and isinstance(other, tuple):
        return len(one) == len(other) and all([is_same(part, its) for part, its in zip(one, other)])
    return isinstance(one, bool) == isinstance(other, bool) and one == other


class Moment:
    """Cries, tasks that are still to be done to them, and what may still become of letters."""

    def __init__(self, net, rows, *, losses=0, doubles=0):
        if not isinstance(net, Cries):
            raise NoCries(net)
        need_rows(rows)
        need_whole(losses, 0, MOST_LETTERS)
        need_whole(doubles, 0, MOST_LETTERS)
        self._net = net.copied()
        self._rows = kept(rows)
        self._done = tuple([0 for _ in rows])
        self._left = (losses, doubles)

    def __eq__(self, other):
        return isinstance(other, Moment) and self.marks() == other.marks()

    def net(self):
        """A copy of the Cries."""
        return self._net.copied()

    def done(self):
        """How many tasks of each row are done, a tuple."""
        return self._done

    def left(self):
        """How many letters may still be lost, and how many doubled, a tuple."""
        return self._left

    def steps(self):
        """All steps that may come next, a list in order."""
        losses, doubles = self._left
        letters = sorted({letter for _, letter in self._net.under_way()})
        steps = [(TASK, at) for at, row in enumerate(self._rows) if self._done[at] < len(row)]
        steps.extend([(COME, letter) for letter in letters])
        if losses > 0:
            steps.extend([(LOSE, letter) for letter in letters])
        if doubles > 0:
            steps.extend([(DOUBLE, letter) for letter in letters])
        return steps

    def after(self, step):
        """The moment behind a step."""
        if not any([is_same(step, one) for one in self.steps()]):
            raise NotThere(step)
        word, what = step
        moment = Moment(self._net, ())
        moment._rows = self._rows
        moment._done = self._done
        moment._left = self._left
        if word == TASK:
            moment._do_task(what)
        else:
            moment._do_to_letter(word, what)
        return moment

    def is_end(self):
        """Whether no step may come next."""
        return len(self.steps()) == 0

    def marks(self):
        """The marks of the Cries, the tasks undone, row by row, and the two numbers, a tuple of three."""
        undone = [row[many:] for row, many in zip(self._rows, self._done)]
        # What stands in tasks may be dicts, and these are told as new ones.
        return (self._net.marks(), kept(undone), self._left)

    def key(self):
        """A key that is equal for just those moments that are, of all to which steps lead from one."""
        # They have the same rows, whose things may be any; so how many tasks are done tells them apart.
        return (self._net.marks(), self._done, self._left)

    def _do_task(self, at):
        """Do the next task of a row, or pass it over."""
        done = self._done[at]
        word, *things = self._rows[at][done]
        try:
            do_by_word(self._net, word, things)
        except (PeerError, Absent, Barred):
            # A task that is refused is passed over.
            pass
        self._done = (*self._done[:at], done + 1, *self._done[at + 1:])

    def _do_to_letter(self, word, letter):
        """Do what a step does with the least number of a letter."""
        numbers = [number for number, one in self._net.under_way() if one == letter]
        do_by_word(self._net, word, [min(numbers)])
        losses, doubles = self._left
        if word == LOSE:
            losses -= 1
        if word == DOUBLE:
            doubles -= 1
        self._left = (losses, doubles)


class Search:
    """All unlike moments to which steps lead from one: first it itself, then by fewest steps, in their order."""

    def __init__(self, moment, most):
        if not isinstance(moment, Moment):
            raise NoOrder(moment)
        need_whole(most, 1, MOST_MOMENTS)
        self._most = most
        self._known = {moment.key(): True}
        # The steps that lead to each moment, and the moment.
        self._found = [([], moment)]
        self._told = 0
        self._opened = 0
        self._has_more = False

    def next_found(self):
        """The next unlike moment, (steps, moment), or None where there is none; no more than the most are told."""
        while self._told == len(self._found):
            if self._has_more:
                raise TooMany(self._most + 1)
            if self._opened == len(self._found):
                return None
            self._open_next()
        self._told += 1
        return self._found[self._told - 1]

    def _open_next(self):
        """Go all steps from the first moment from which none was gone."""
        steps, moment = self._found[self._opened]
        self._opened += 1
        for step in moment.steps():
            self._reach(steps + [step], moment.after(step))

    def _reach(self, steps, moment):
        """Keep a moment to which steps lead, where none that is equal was reached by fewer, or ahead."""
        key = moment.key()
        if key in self._known:
            return
        if len(self._found) == self._most:
            self._has_more = True
            return
        self._known[key] = True
        self._found.append((steps, moment))


def ends_of(moment, *, most=300):
    """All unlike ends to which steps lead from a moment, a list of (steps, end)."""
    search = Search(moment, most)
    ends = []
    found = search.next_found()
    while found is not None:
        if found[1].is_end():
            ends.append(found)
        found = search.next_found()
    return ends


def first_that(moment, tells, *, most=300):
    """The first moment to which steps lead of which a def tells True: (steps, moment), or None."""
    search = Search(moment, most)
    found = search.next_found()
    while found is not None:
        if tells(found[1]):
            return found
        found = search.next_found()
    return None
