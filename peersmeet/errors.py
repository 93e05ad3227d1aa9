"""The refusals: one class for each kind, under the family that it belongs to."""


class PeerError(ValueError):
    """What is handed in isn't what is wanted."""

    def __init__(self, text):
        ValueError.__init__(self, text)


class Absent(KeyError):
    """What is asked for by its name or number isn't there."""

    def __init__(self, text):
        KeyError.__init__(self, text)


class Barred(LookupError):
    """What is asked for can't be done, or had, now."""

    def __init__(self, text):
        LookupError.__init__(self, text)


class TooMany(PeerError):
    """There would be too many of something, or a number beyond its bound."""

    def __init__(self, many):
        PeerError.__init__(self, "too many")
        self.many = many


class NoRow(PeerError):
    """The thing at this number is no row, or none that can stand there."""

    def __init__(self, at):
        PeerError.__init__(self, "no row")
        self.at = at


class NoName(PeerError):
    """What is to be a name, or a key, is none."""

    def __init__(self, found):
        PeerError.__init__(self, "no name")
        self.found = found


class NoNumber(PeerError):
    """What is to be a whole number within its bounds is none."""

    def __init__(self, found):
        PeerError.__init__(self, "no number")
        self.found = found


class NoPlace(PeerError):
    """What is to be a place is none."""

    def __init__(self, found):
        PeerError.__init__(self, "no place")
        self.found = found


class NoText(PeerError):
    """What is to be a text is none."""

    def __init__(self, found):
        PeerError.__init__(self, "no text")
        self.found = found


class NoTruth(PeerError):
    """What is to be True or False is neither."""

    def __init__(self, found):
        PeerError.__init__(self, "no truth")
        self.found = found


class NoList(PeerError):
    """What is to be a list, or a dict, of a told form is none."""

    def __init__(self, found):
        PeerError.__init__(self, "no list")
        self.found = found


class NoWord(PeerError):
    """What is to be a word is none of those that may stand there."""

    def __init__(self, found):
        PeerError.__init__(self, "no word")
        self.found = found


class NoCard(PeerError):
    """What is to be a card is none."""

    def __init__(self, found):
        PeerError.__init__(self, "no card")
        self.found = found


class NoPiece(PeerError):
    """What is to be a piece, or the number of one, is none."""

    def __init__(self, found):
        PeerError.__init__(self, "no piece")
        self.found = found


class NoPeers(PeerError):
    """What are to be the peers of a circle, or one of them, are none."""

    def __init__(self, found):
        PeerError.__init__(self, "no peers")
        self.found = found


class NoCircle(PeerError):
    """What is to be a circle is none."""

    def __init__(self, found):
        PeerError.__init__(self, "no circle")
        self.found = found


class NoView(PeerError):
    """What is to be a view is none."""

    def __init__(self, found):
        PeerError.__init__(self, "no view")
        self.found = found


class NoBook(PeerError):
    """What is to be a book is none."""

    def __init__(self, found):
        PeerError.__init__(self, "no book")
        self.found = found


class NoLog(PeerError):
    """What is to be a log is none."""

    def __init__(self, found):
        PeerError.__init__(self, "no log")
        self.found = found


class NoNet(PeerError):
    """What is to be a net is none."""

    def __init__(self, found):
        PeerError.__init__(self, "no net")
        self.found = found


class NoCries(PeerError):
    """What are to be Cries are none."""

    def __init__(self, found):
        PeerError.__init__(self, "no cries")
        self.found = found


class NoSides(PeerError):
    """What are to be the sides of a cut net are none."""

    def __init__(self, found):
        PeerError.__init__(self, "no sides")
        self.found = found


class NoOrder(PeerError):
    """What is to be an order, or a moment, is none."""

    def __init__(self, found):
        PeerError.__init__(self, "no order")
        self.found = found


class NoPaper(PeerError):
    """What is to be a paper is none."""

    def __init__(self, found):
        PeerError.__init__(self, "no paper")
        self.found = found


class NoDeed(PeerError):
    """What is to be a deed is none."""

    def __init__(self, found):
        PeerError.__init__(self, "no deed")
        self.found = found


class NoTask(PeerError):
    """What is to be a task is none."""

    def __init__(self, found):
        PeerError.__init__(self, "no task")
        self.found = found


class NoLine(PeerError):
    """What is to be a line of a desk is none."""

    def __init__(self, found):
        PeerError.__init__(self, "no line")
        self.found = found


class Taken(PeerError):
    """What is to be free is taken."""

    def __init__(self, found):
        PeerError.__init__(self, "taken")
        self.found = found


class Twice(PeerError):
    """What may stand once stands twice."""

    def __init__(self, found):
        PeerError.__init__(self, "twice")
        self.found = found


class Unlike(PeerError):
    """What is to be of one key with others is of another."""

    def __init__(self, found):
        PeerError.__init__(self, "unlike")
        self.found = found


class NotThere(Absent):
    """Nothing of this name, key or number is there."""

    def __init__(self, found):
        Absent.__init__(self, "not there")
        self.found = found


class NoPeer(Absent):
    """No peer of the net has this name."""

    def __init__(self, found):
        Absent.__init__(self, "no peer")
        self.found = found


class NotOnRoad(Absent):
    """No letter of this number is under way."""

    def __init__(self, found):
        Absent.__init__(self, "not on the road")
        self.found = found


class Down(Barred):
    """The peer of this name doesn't stand."""

    def __init__(self, found):
        Barred.__init__(self, "down")
        self.found = found


class Stands(Barred):
    """The peer of this name stands already."""

    def __init__(self, found):
        Barred.__init__(self, "stands")
        self.found = found


class Quiet(Barred):
    """The peer of this name doesn't answer."""

    def __init__(self, found):
        Barred.__init__(self, "quiet")
        self.found = found


class Alone(Barred):
    """There are too few peers for this."""

    def __init__(self, found):
        Barred.__init__(self, "alone")
        self.found = found


class NotFound(Barred):
    """Under this key nothing was found."""

    def __init__(self, found):
        Barred.__init__(self, "not found")
        self.found = found


class Away(Barred):
    """What was under this key was taken away."""

    def __init__(self, found):
        Barred.__init__(self, "away")
        self.found = found


class Lacks(Barred):
    """The pieces of these numbers lack."""

    def __init__(self, found):
        Barred.__init__(self, "lacks")
        self.found = found


class WrongPiece(Barred):
    """The piece at this number doesn't fit."""

    def __init__(self, at):
        Barred.__init__(self, "wrong piece")
        self.at = at
