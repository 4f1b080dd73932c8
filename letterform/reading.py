"""Reading a text back to the values that a form is filled with."""

from letterform.errors import NoReading, Twofold
from letterform.pieces import Ask, Say
from letterform.steps import Sign, steps_of


class Teller:
    """Tells the values of one reading: its choices are used up one by one, along the text."""

    def __init__(self, text, choices):
        self.text = text
        self.choices = choices
        self.used = 0
        self.place = 0

    def values_of(self, parts):
        values = {}
        for part in parts:
            if isinstance(part, Say):
                self.place += len(part.text)
            elif isinstance(part, Ask):
                values[part.name] = self.field_of(part)
            else:
                values[part.name] = self.rows_of(part)
        return values

    def field_of(self, ask):
        length = 0
        while self.goes_on(ask, length):
            length += 1
        self.place += length
        return self.text[self.place - length:self.place]

    def rows_of(self, rows):
        told = []
        while self.goes_on(rows, len(told)):
            if told:
                self.place += len(rows.gap)
            told.append(self.values_of(rows.parts))
        return told

    def goes_on(self, part, number):
        """Whether a sign or row comes behind so many; a choice is used only where there is one."""
        if number < part.least:
            return True
        if number == part.most:
            return False
        self.used += 1
        return self.choices[self.used - 1]


def readings(form, text, most=2):
    """The first readings of the text, at most so many."""
    steps = steps_of(form)
    found = first_choices(steps, fitting_places(steps, text), most)
    return [Teller(text, choices).values_of(form.plan) for choices in found]


def read(form, text):
    """The reading of a text that has just one. Refuses with NoReading and Twofold."""
    found = readings(form, text, 2)
    if len(found) == 0:
        raise NoReading("the text has no reading")
    if len(found) == 2:
        raise Twofold(found[0], found[1])
    return found[0]


def fitting_places(steps, text):
    """For each step the places of the text from which the rest can be read from that step on.

    Places are kept as one whole number, with bit k set for place k, so that all places are
    looked at together and each only once.
    """
    standing = places_of_signs(text)
    fits = [1 << len(text)]
    for step in steps[1:]:
        if isinstance(step, Sign):
            fits.append((fits[-1] >> 1) & places_of_any(step.signs, standing))
        else:
            fits.append(fits[-1] | fits[step.behind])
    return fits


def places_of_signs(text):
    standing = {}
    for place, sign in enumerate(text):
        standing[sign] = standing.get(sign, 0) | (1 << place)
    return standing


def places_of_any(signs, standing):
    places = 0
    for sign in signs:
        places = places | standing.get(sign, 0)
    return places


def has_place(places, place):
    return (places >> place) & 1 == 1


def first_choices(steps, fits, most):
    """The choices of the first readings: for each a list of True (it goes on) and False (it ends)."""
    found = []
    ways = []
    if has_place(fits[-1], 0):
        ways.append((len(steps) - 1, 0, None))
    while ways and len(found) < most:
        found.append(choices_along(steps, fits, ways.pop(), ways))
    return found


def choices_along(steps, fits, way, ways):
    """Goes the way to the end, and ends fields and rows wherever that fits.

    Where going on fits too, that way is put on `ways`. The last one put there parts latest from the
    way gone here, so it is the next in order. A way is a step, a place, and the choices made so far,
    the latest one in front of those before it: so ways that part share what they have in common.
    """
    number = way[0]
    place = way[1]
    choices = way[2]
    while number > 0:
        step = steps[number]
        number -= 1
        if isinstance(step, Sign):
            place += 1
        elif has_place(fits[step.behind], place):
            if has_place(fits[number], place):
                ways.append((number, place, (True, choices)))
            choices = (False, choices)
            number = step.behind
        else:
            choices = (True, choices)
    return in_order(choices)


def in_order(choices):
    told = []
    while choices is not None:
        told.append(choices[0])
        choices = choices[1]
    told.reverse()
    return told
