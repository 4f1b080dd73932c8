import copy
import unittest

from fillings import emptied
from letterform.errors import BadValue, NoReading, Twofold
from letterform.filling import fill
from letterform.judging import judged, single
from letterform.pieces import Form, names_of
from letterform.reading import read, readings

# Names and places alike, and all else unlike: what is kept of one form would tell wrongly of the other.
ONE = [("ask", "a", "xy", 0, 2), ("rows", "r", [("ask", "a", "xy", 0, 2)], ",", 0, 3)]
OTHER = [("rows", "a", [("ask", "r", "x", 1, 2), ("say", ",")], "", 0, 2), ("ask", "r", "y", 0, 1)]
TEXTS = ("", "x", "xy", "x,", "x,x,", "x,y", "xx,xx", "y", "yyyy", "x,x,y", "-")
VALUES = [
    {"a": "xy", "r": [{"a": "x"}, {"a": ""}]},
    {"a": [{"r": "x"}, {"r": "xx"}], "r": "y"},
    {"a": "", "r": []},
    {"a": [], "r": ""},
    {"a": "xxx", "r": "y"},
    {},
]


def told_or_refused(call, *handed):
    """What is told or refused, copied; what was told itself is emptied at once."""
    try:
        told = call(*handed)
    except BadValue as refusal:
        return ("BadValue", refusal.name)
    except NoReading:
        return ("NoReading",)
    except Twofold as refusal:
        kept = ("Twofold", copy.deepcopy(refusal.one), copy.deepcopy(refusal.other))
        emptied([refusal.one, refusal.other])
        return kept
    except (TypeError, AttributeError):
        return ("values of another kind",)
    kept = copy.deepcopy(told)
    if isinstance(told, (list, dict, tuple)):
        emptied(told)
    return kept


def asked(form):
    """All that is asked of a form, one answer at a time."""
    yield lambda: told_or_refused(names_of, form)
    yield lambda: told_or_refused(judged, form)
    yield lambda: told_or_refused(single, form)
    for text in TEXTS:
        yield lambda text=text: told_or_refused(read, form, text)
        yield lambda text=text: told_or_refused(readings, form, text)
        yield lambda text=text: told_or_refused(readings, form, text, 1000)
    for values in VALUES:
        yield lambda values=values: told_or_refused(fill, form, values)


class Turns(unittest.TestCase):
    def test_each_form_answers_as_by_itself(self):
        one_alone = [ask() for ask in asked(Form(ONE))]
        other_alone = [ask() for ask in asked(Form(OTHER))]
        self.assertNotEqual(one_alone, other_alone)
        one, other = Form(ONE), Form(OTHER)
        for _ in range(2):
            by_turns = [(ask_one(), ask_other()) for ask_one, ask_other in zip(asked(one), asked(other))]
            self.assertEqual([pair[0] for pair in by_turns], one_alone)
            self.assertEqual([pair[1] for pair in by_turns], other_alone)

    def test_the_answers(self):
        one, other = Form(ONE), Form(OTHER)
        self.assertEqual((single(one), single(other)), (False, True))
        self.assertEqual(read(other, "x,x,y"), {"a": [{"r": "x"}, {"r": "x"}], "r": "y"})
        expected = [{"a": "", "r": [{"a": "x"}, {"a": "x"}, {"a": "y"}]},
                    {"a": "x", "r": [{"a": ""}, {"a": "x"}, {"a": "y"}]}]
        self.assertEqual(readings(one, "x,x,y", 1000), expected)
        with self.assertRaises(NoReading):
            read(other, "x,y,")
        with self.assertRaises(Twofold):
            read(one, "")

    def test_nothing_handed_in_is_changed(self):
        pieces = copy.deepcopy([ONE, OTHER])
        values = copy.deepcopy(VALUES)
        forms = [Form(ONE), Form(OTHER)]
        for form in forms:
            for ask in asked(form):
                ask()
        self.assertEqual([ONE, OTHER], pieces)
        self.assertEqual([form.pieces for form in forms], pieces)
        self.assertEqual(VALUES, values)

    def test_forms_of_the_same_lists(self):
        within = [("ask", "a", "x", 1, 2)]
        one, other = Form([("rows", "r", within, ",", 0, 2)]), Form([("rows", "r", within, "", 0, 2)])
        within.clear()
        self.assertEqual([read(one, "x,x"), read(other, "x")], [{"r": [{"a": "x"}, {"a": "x"}]}, {"r": [{"a": "x"}]}])
        self.assertEqual([single(one), single(other)], [True, False])


if __name__ == "__main__":
    unittest.main()
