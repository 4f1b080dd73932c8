"""Forms: the pieces that they are made of, and the names that they ask for."""

from letterform.errors import BadForm

SIGNS = "abcdefghijklmnopqrstuvwxyzABCDEFGHIJKLMNOPQRSTUVWXYZ0123456789 .,:;-/()\n"
FORM_WORDS = ("say", "ask", "rows")
ROW_WORDS = ("say", "ask")
LENGTHS = {"say": 2, "ask": 5, "rows": 6}


class Form:
    """A letter with places left open.

    `pieces` is for the reader. The program itself goes by `plan`, which shares no list
    with it, so that nothing hangs on what becomes of `pieces`.
    """

    def __init__(self, pieces):
        self.plan = parts_of(pieces, FORM_WORDS, 6)
        self.pieces = [copy_of(piece) for piece in pieces]


class Say:
    """A text that stands in the form."""

    def __init__(self, piece):
        self.text = piece[1]
        need_signs(self.text, 1, 12, "the text of a say")


class Ask:
    """A field for a short text."""

    def __init__(self, piece):
        self.name = piece[1]
        self.signs = piece[2]
        self.least = piece[3]
        self.most = piece[4]
        need(self.name != "", "the name of an ask is empty")
        need_signs(self.signs, 1, 20, "the signs of an ask")
        need(len(set(self.signs)) == len(self.signs), "two signs of an ask are alike")
        need_bounds(self, 4)


class Rows:
    """A place for rows, each of which has the same parts."""

    def __init__(self, piece):
        self.name = piece[1]
        self.parts = parts_of(piece[2], ROW_WORDS, 3)
        self.gap = piece[3]
        self.least = piece[4]
        self.most = piece[5]
        need(self.name != "", "the name of rows is empty")
        need_signs(self.gap, 0, 5, "the gap of rows")
        need_bounds(self, 3)


def names_of(form):
    """The names of the form's asks and rows, in order, without those within rows."""
    return names_in(form.plan)


def names_in(parts):
    return [part.name for part in parts if not isinstance(part, Say)]


def parts_of(pieces, words, most):
    """The pieces as objects, if there are not too many and each begins with one of the words."""
    need(1 <= len(pieces) <= most, "there are too few or too many pieces")
    parts = [part_of(piece, words) for piece in pieces]
    names = names_in(parts)
    need(len(set(names)) == len(names), "two pieces have one name")
    return parts


def part_of(piece, words):
    need(len(piece) > 0 and piece[0] in words, "a piece has a first word that can't stand there")
    need(len(piece) == LENGTHS[piece[0]], "a piece has too few or too many things")
    if piece[0] == "say":
        return Say(piece)
    if piece[0] == "ask":
        return Ask(piece)
    return Rows(piece)


def copy_of(piece):
    """The piece with a list of its own, where it has one."""
    if piece[0] != "rows":
        return piece
    return piece[:2] + (list(piece[2]),) + piece[3:]


def need(holds, words):
    if not holds:
        raise BadForm(words)


def need_signs(text, least, most, what):
    need(least <= len(text) <= most, f"{what}: too few or too many signs")
    need(all([sign in SIGNS for sign in text]), f"{what}: not a sign of forms")


def need_bounds(part, highest):
    need(0 <= part.least <= part.most <= highest, "least and most are out of bounds")
