"""Things: pieces of texts, cards, which card is the greater one, and pieces that fit a card."""

from peersmeet.errors import Away, Lacks, NoCard, NoList, NoPiece, Unlike, WrongPiece
from peersmeet.marks import MARK_LEFT, MOST_NUMBER, MOST_PIECES
from peersmeet.marks import is_list, is_name, is_number, is_text, is_whole, mark_of
from peersmeet.marks import need_name, need_text, need_whole, piece_place, place_of

PIECE_SIGNS = 8
MOST_THINGS = 100


def is_piece(thing, last):
    """Whether a thing may be a piece of a text, the last one or one ahead of it."""
    if not is_text(thing):
        return False
    return len(thing) == PIECE_SIGNS or last and 0 < len(thing) < PIECE_SIGNS


def pieces_of(text):
    """The pieces of a text in order, a list."""
    need_text(text)
    return [text[at:at + PIECE_SIGNS] for at in range(0, len(text), PIECE_SIGNS)]


def text_of(pieces):
    """The text that is made of a list of pieces."""
    if not is_list(pieces) or len(pieces) > MOST_PIECES:
        raise NoList(pieces)
    for at, piece in enumerate(pieces):
        if not is_piece(piece, at == len(pieces) - 1):
            raise NoPiece(piece)
    return "".join(pieces)


def is_mark(thing):
    """Whether a thing is a mark that some text may have."""
    return is_number(thing) and 0 <= thing < 256 * MARK_LEFT and thing % 256 < MARK_LEFT


def is_marks(thing):
    """Whether a thing may be the marks of a card."""
    if thing is None:
        return True
    if not isinstance(thing, tuple) or len(thing) > MOST_PIECES:
        return False
    return all([is_mark(mark) for mark in thing])


def card_of(key, number, by, *, text=None):
    """The card of a text that is put, or, of None, of what is taken away."""
    need_name(key)
    need_whole(number, 1, MOST_NUMBER)
    need_name(by)
    if text is None:
        return (key, number, by, None)
    return (key, number, by, tuple([mark_of(piece) for piece in pieces_of(text)]))


def is_card(thing):
    """Whether any thing is a card."""
    if not isinstance(thing, tuple) or len(thing) != 4:
        return False
    key, number, by, marks = thing
    return is_name(key) and is_whole(number, 1, MOST_NUMBER) and is_name(by) and is_marks(marks)


def need_card(thing):
    """Refuse what is no card."""
    if not is_card(thing):
        raise NoCard(thing)


def rank(card):
    """What orders cards of one key; Python orders no marks beside None."""
    _, number, by, marks = card
    return (number, by, marks is not None, marks or ())


def is_ahead(one, other):
    """Whether the first of two cards of one key is ahead, the other being greater."""
    need_card(one)
    need_card(other)
    if other[0] != one[0]:
        raise Unlike(other)
    return rank(one) < rank(other)


def greater(one, other):
    """The greater of two cards of one key, the first where they are equal."""
    return other if is_ahead(one, other) else one


def greatest(cards):
    """The greatest of a list of cards of one key, the first of equal ones."""
    if not is_list(cards) or not 1 <= len(cards) <= MOST_THINGS:
        raise NoList(cards)
    best = cards[0]
    # The first is looked at beside itself, so that it is refused where it is no card.
    for card in cards:
        best = greater(best, card)
    return best


def marks_in(card):
    """The marks of a card, none where its key was taken away."""
    return card[3] or ()


def fits(card, at, piece):
    """Whether a piece fits a card at a number, both any things."""
    need_card(card)
    marks = marks_in(card)
    if not is_whole(at, 0, len(marks) - 1):
        return False
    return is_piece(piece, at == len(marks) - 1) and mark_of(piece) == marks[at]


def first_wrong(card, pieces):
    """The number of the first of a list of pieces that doesn't fit, or that lacks, or None."""
    need_card(card)
    if not is_list(pieces) or len(pieces) > MOST_THINGS:
        raise NoList(pieces)
    for at, piece in enumerate(pieces):
        if not fits(card, at, piece):
            return at
    return len(pieces) if len(pieces) < len(marks_in(card)) else None


def whole_text(card, pieces):
    """The text whose pieces stand in a dict under the numbers of a card's marks."""
    need_card(card)
    if not isinstance(pieces, dict) or len(pieces) > MOST_THINGS:
        raise NoList(pieces)
    if card[3] is None:
        raise Away(card[0])
    numbers = range(len(card[3]))
    for at in numbers:
        if at in pieces and not fits(card, at, pieces[at]):
            raise WrongPiece(at)
    lacking = [at for at in numbers if at not in pieces]
    if lacking:
        raise Lacks(lacking)
    return "".join([pieces[at] for at in numbers])


def card_places(card):
    """The places at which a card, and its pieces in order, are kept."""
    need_card(card)
    key = card[0]
    return [place_of(key)] + [piece_place(key, at) for at in range(len(marks_in(card)))]
