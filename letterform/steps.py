"""The steps along a form, a sign or a choice each: reading and judging both go along them."""

from letterform.pieces import Ask, Say


class Sign:
    """One of the `signs` stands there."""

    def __init__(self, signs):
        self.signs = signs


class Choice:
    """A field goes on or a row comes; or else the next step is number `behind`, behind the field or the rows."""

    def __init__(self, behind):
        self.behind = behind


def steps_of(form):
    """The steps, from the form's end to its beginning.

    Behind step k comes step k - 1, if no choice leads elsewhere, and step 0 is the end. So whatever
    is asked of the rest of a form is known of all later steps by the time a step is looked at.
    """
    # The end is a sign out of none, so that nothing can go on from there.
    steps = [Sign("")]
    add_parts(steps, form.plan)
    return steps


def add_parts(steps, parts):
    for part in reversed(parts):
        if isinstance(part, Say):
            add_text(steps, part.text)
        elif isinstance(part, Ask):
            add_field(steps, part)
        else:
            add_rows(steps, part)


def add_text(steps, text):
    for sign in reversed(text):
        steps.append(Sign(sign))


def add_field(steps, ask):
    behind = len(steps) - 1
    for length in range(ask.most - 1, -1, -1):
        steps.append(Sign(ask.signs))
        if length >= ask.least:
            steps.append(Choice(behind))


def add_rows(steps, rows):
    behind = len(steps) - 1
    for number in range(rows.most - 1, -1, -1):
        add_parts(steps, rows.parts)
        if number > 0:
            add_text(steps, rows.gap)
        if number >= rows.least:
            steps.append(Choice(behind))
