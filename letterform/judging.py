"""Judging whether a form is single: whether each text has one reading at most."""

from letterform.reading import readings
from letterform.steps import Sign, steps_of


def judged(form):
    """None for a single form; for a twofold one a text, its first reading and its second."""
    text = twofold_text(steps_of(form))
    if text is None:
        return None
    found = readings(form, text, 2)
    return (text, found[0], found[1])


def single(form):
    """Whether no text has two readings."""
    return twofold_text(steps_of(form)) is None


def twofold_text(steps):
    """A text that has two readings, or None.

    Two readings are gone along at once, from where they part; how they came to a pair of steps
    changes nothing of what comes behind it, so each pair is looked at once.
    """
    pairs = partings(steps)
    seen = {}
    while pairs:
        pair = pairs.pop()
        both = (max(pair[0], pair[1]), min(pair[0], pair[1]))
        if both == (0, 0):
            return pair[2]
        if both not in seen:
            seen[both] = True
            pairs.extend(next_pairs(steps, pair[0], pair[1], pair[2]))
    return None


def partings(steps):
    """For each choice the two steps behind it, and a text that leads there: the one in which all goes on."""
    pairs = []
    text = ""
    for number in range(len(steps) - 1, 0, -1):
        step = steps[number]
        if isinstance(step, Sign):
            text = text + step.signs[0]
        else:
            pairs.append((number - 1, step.behind, text))
    return pairs


def next_pairs(steps, one, other, text):
    """The pairs behind a pair, with the text so far: choices are made before both take one sign together."""
    here = steps[one]
    there = steps[other]
    if not isinstance(here, Sign):
        return [(one - 1, other, text), (here.behind, other, text)]
    if not isinstance(there, Sign):
        return [(one, other - 1, text), (one, there.behind, text)]
    for sign in here.signs:
        if sign in there.signs:
            return [(one - 1, other - 1, text + sign)]
    return []
