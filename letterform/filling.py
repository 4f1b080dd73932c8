"""Filling a form with values."""

from letterform.errors import BadValue
from letterform.pieces import Ask, Say


def fill(form, values):
    """The text that the form is filled to. Refuses with BadValue."""
    return filled_parts(form.plan, values)


def filled_parts(parts, values):
    return "".join([filled_part(part, values) for part in parts])


def filled_part(part, values):
    if isinstance(part, Say):
        return part.text
    if isinstance(part, Ask):
        return filled_ask(part, values)
    return filled_rows(part, values)


def filled_ask(ask, values):
    text = value_of(ask, values)
    for sign in text:
        if sign not in ask.signs:
            raise BadValue(ask.name, "has a sign that the ask has not")
    return text


def filled_rows(rows, values):
    texts = [filled_parts(rows.parts, row) for row in value_of(rows, values)]
    return rows.gap.join(texts)


def value_of(part, values):
    """The text for an ask or the list for rows: both are bounded by their length."""
    if part.name not in values:
        raise BadValue(part.name, "is lacking")
    value = values[part.name]
    if len(value) < part.least:
        raise BadValue(part.name, "has too few signs or rows")
    if len(value) > part.most:
        raise BadValue(part.name, "has too many signs or rows")
    return value
