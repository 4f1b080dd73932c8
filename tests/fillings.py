"""All fillings of small forms, found without the program, and what the tests of reading and judging share."""

import contextlib
import functools
import itertools
import random
import signal


def all_values(pieces):
    """All values that fit the pieces, each with just the names asked for."""
    choices = [values_of_piece(piece) for piece in pieces if piece[0] != "say"]
    names = [piece[1] for piece in pieces if piece[0] != "say"]
    return [dict(zip(names, chosen)) for chosen in itertools.product(*choices)]


def values_of_piece(piece):
    if piece[0] == "ask":
        least, most = piece[3:]
        return ["".join(signs) for n in range(least, most + 1) for signs in itertools.product(piece[2], repeat=n)]
    least, most = piece[4:]
    within = all_values(piece[2])
    return [list(rows) for n in range(least, most + 1) for rows in itertools.product(within, repeat=n)]


def number_of_values(pieces):
    number = 1
    for piece in pieces:
        if piece[0] == "ask":
            number *= sum(len(piece[2]) ** n for n in range(piece[3], piece[4] + 1))
        elif piece[0] == "rows":
            number *= sum(number_of_values(piece[2]) ** n for n in range(piece[4], piece[5] + 1))
    return number


def written(pieces, values):
    text = ""
    for piece in pieces:
        if piece[0] == "say":
            text += piece[1]
        elif piece[0] == "ask":
            text += values[piece[1]]
        else:
            text += piece[3].join(written(piece[2], row) for row in values[piece[1]])
    return text


def place_in_order(pieces, values):
    """Point [7] as a list to sort by: 1 for each sign of a field and each row that comes, 0 for each end."""
    marks = []
    for piece in pieces:
        if piece[0] == "ask":
            marks += [1] * len(values[piece[1]]) + [0]
        elif piece[0] == "rows":
            for row in values[piece[1]]:
                marks += [1] + place_in_order(piece[2], row)
            marks += [0]
    return marks


def readings_by_text(pieces):
    """Each text that the form writes, with all its readings in order."""
    found = {}
    for values in sorted(all_values(pieces), key=lambda values: place_in_order(pieces, values)):
        found.setdefault(written(pieces, values), []).append(values)
    return found


def places_of_readings(pieces, text):
    """The readings of a text in order, each as `place_in_order` tells it, one by one: for forms of any size."""
    @functools.cache
    def can_end(left, place):
        return place == len(text) if not left else any([can_end(*way[1:]) for way in ways(left, place)])

    def ways(left, place):
        """What can come next: the marks for it, what is left behind it, and its place."""
        kind, *piece = left[0]
        if kind == "say":
            return [([], left[1:], place + len(piece[0]))] if text.startswith(piece[0], place) else []
        if kind == "ask":
            name, signs, least, most = piece
            return [([1] * n + [0], left[1:], place + n) for n in range(least, min(most, len(text) - place) + 1)
                    if set(text[place:place + n]) <= set(signs)]
        name, within, gap, least, most, *come = piece
        found = [([0], left[1:], place)] if len(come) >= least else []
        if len(come) < most:
            ahead = (("say", gap),) if come else ()
            found.append(([1], ahead + tuple(within) + (left[0] + ("a row",),) + left[1:], place))
        return found

    def told(left, place, marks):
        if not left:
            yield marks
        for more, behind, there in ways(left, place) if left else []:
            if can_end(behind, there):
                yield from told(behind, there, marks + more)

    whole = tuple(piece if piece[0] != "rows" else piece[:2] + (tuple(piece[2]),) + piece[3:] for piece in pieces)
    return told(whole, 0, []) if can_end(whole, 0) else iter(())


def random_pieces(chance, highest):
    """Pieces of a form with few signs, so that much overlaps, and with at most `highest` fillings."""
    while True:
        signs = chance.choice(["x", "xy", "xy,"])
        pieces = [random_piece(chance, signs, f"n{k}", ("say", "ask", "ask", "rows"))
                  for k in range(chance.randint(1, 6))]
        if number_of_values(pieces) <= highest:
            return pieces


def random_piece(chance, signs, name, kinds):
    kind = chance.choice(kinds)
    if kind == "say":
        return ("say", random_text(chance, signs, 1, 2))
    most = chance.randint(0, 3)
    least = chance.randint(0, most)
    if kind == "ask":
        return ("ask", name, "".join(chance.sample(signs, chance.randint(1, len(signs)))), least, most)
    within = [random_piece(chance, signs, f"n{k}", ("say", "ask", "ask")) for k in range(chance.randint(1, 3))]
    return ("rows", name, within, random_text(chance, signs, 0, 2), least, most)


def random_text(chance, signs, least, most):
    return "".join(chance.choice(signs) for _ in range(chance.randint(least, most)))


def small_forms():
    """Forms with few fillings: some that tell of one edge each, and many by (always the same) chance."""
    x = ("ask", "a", "x", 0, 2)
    yield [("say", "x")]
    yield [("ask", "a", "xy", 0, 0)]
    yield [("ask", "a", "xy", 2, 4)]
    yield [x, ("ask", "b", "x", 0, 2)]
    yield [x, ("say", "x"), ("ask", "b", "xy", 1, 2)]
    yield [("rows", "r", [("say", "x")], "", 0, 3)]
    yield [("rows", "r", [("say", "x")], ",", 0, 0)]
    yield [("rows", "r", [x], "", 0, 3)]
    yield [("rows", "r", [x], "x", 0, 3)]
    yield [("rows", "r", [x], ",", 0, 3)]
    yield [("rows", "r", [("ask", "a", "x,", 0, 2)], ",", 0, 3)]
    yield [("rows", "r", [("ask", "a", "x", 0, 0)], "", 0, 3)]
    yield [("rows", "r", [("ask", "a", "x", 0, 0)], "x", 1, 3)]
    yield [("rows", "r", [x, ("ask", "b", "x", 0, 1)], "", 0, 2), ("ask", "a", "x", 0, 2)]
    yield [("rows", "r", [x, ("say", "x")], "", 0, 2), ("rows", "a", [x], "xx", 0, 2)]
    yield [("rows", "r", [x, ("say", "-"), ("ask", "b", "x", 0, 1)], ";", 2, 2), ("ask", "b", "x", 0, 1)]
    yield [("ask", f"n{k}", "x", 0, 1) for k in range(6)]
    chance = random.Random(5)
    for _ in range(400):
        yield random_pieces(chance, 600)


def largest_form(signs="a", gap="", least=0):
    """Pieces of a form as large as can be, whose fields and rows overlap as much as can be."""
    within = [("ask", name, signs, 0, 4) for name in "xyz"]
    return [("rows", f"n{k}", list(within), gap, least, 3) for k in range(6)]


def emptied(told):
    """Empties whatever dict or list is within what was told."""
    for thing in told.values() if isinstance(told, dict) else told:
        if isinstance(thing, (dict, list, tuple)):
            emptied(thing)
    if isinstance(told, (dict, list)):
        told.clear()


@contextlib.contextmanager
def at_most(seconds):
    """Fails, and does not hang, where an answer takes longer than can be borne."""
    def too_long(*_):
        raise AssertionError(f"no answer in {seconds} seconds")

    before = signal.signal(signal.SIGALRM, too_long)
    signal.alarm(seconds)
    try:
        yield
    finally:
        signal.alarm(0)
        signal.signal(signal.SIGALRM, before)
