"""The refusals of the program, one class for each."""


class FormError(ValueError):
    """Any refusal."""


class BadForm(FormError):
    """The pieces told make no form."""


class BadValue(FormError):
    """The value for `name` is lacking or does not fit."""

    def __init__(self, name, words="is refused"):
        FormError.__init__(self, name, words)
        self.name = name


class NoReading(FormError):
    """The text has no reading."""


class Twofold(FormError):
    """The text has more than one reading; `one` and `other` are the first two."""

    def __init__(self, one, other):
        FormError.__init__(self, one, other)
        self.one = one
        self.other = other
