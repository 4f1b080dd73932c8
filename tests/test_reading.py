import copy
import itertools
import unittest

from fillings import (at_most, emptied, largest_form, place_in_order, places_of_readings, readings_by_text,
                      small_forms, written)
from letterform.errors import FormError, NoReading, Twofold
from letterform.filling import fill
from letterform.pieces import Form
from letterform.reading import read, readings

LETTER = [
    ("say", "Dear "),
    ("ask", "who", "abc", 1, 4),
    ("say", ":\n"),
    ("rows", "list", [("say", "- "), ("ask", "what", "xyz", 1, 3), ("ask", "many", "0123", 0, 2)], ";\n", 0, 3),
    ("ask", "end", ".,", 0, 1),
    ("say", "\nBye"),
]


def ask(name, signs="x", least=0, most=2):
    return ("ask", name, signs, least, most)


class ReadingTest(unittest.TestCase):
    def assert_readings(self, pieces, text, expected):
        """All readings and the first ones of them, told by `readings` and by `read`."""
        form = Form(pieces)
        self.assertEqual(readings(form, text), expected[:2])
        for most in (1, 2, 12, 1000):
            self.assertEqual(readings(form, text, most), expected[:most])
            self.assertEqual(readings(form, text, most=most), expected[:most])
        if len(expected) == 1:
            self.assertEqual(read(form, text), expected[0])
            return
        with self.assertRaises(Twofold if expected else NoReading) as caught:
            read(form, text)
        if expected:
            self.assertEqual([caught.exception.one, caught.exception.other], expected[:2])


class Readings(ReadingTest):
    def test_a_letter(self):
        values = {"who": "abba", "list": [{"what": "x", "many": "10"}, {"what": "zzy", "many": ""}], "end": "."}
        self.assert_readings(LETTER, "Dear abba:\n- x10;\n- zzy.\nBye", [values])
        self.assert_readings(LETTER, "Dear c:\n\nBye", [{"who": "c", "list": [], "end": ""}])

    def test_a_letter_with_a_fault(self):
        for text in ("", "Dear ", "Dear :\n\nBye", "Dear a:\n\nBye ", " Dear a:\n\nBye", "Dear abcab:\n\nBye",
                     "Dear a:\n- \nBye", "Dear a:\n- x;\n\nBye", "Dear a:\n- x- y\nBye", "Dear d:\n\nBye",
                     "Dear a:\n- x;\n- x;\n- x;\n- x\nBye", "Dear a:\n.,\nBye", "dear a:\n\nBye", "Dear a:\n\nBy"):
            with self.subTest(text=text):
                self.assert_readings(LETTER, text, [])

    def test_a_say_alone(self):
        self.assert_readings([("say", "(a)")], "(a)", [{}])
        for text in ("", "(a", "(a)(a)", "(b)"):
            self.assert_readings([("say", "(a)")], text, [])

    def test_a_field_alone(self):
        pieces = [ask("a", "xy", 1, 3)]
        for text in ("x", "xy", "yyx"):
            self.assert_readings(pieces, text, [{"a": text}])
        for text in ("", "xxxx", "z", "xz", "zx", "X", "x\n"):
            self.assert_readings(pieces, text, [])
        self.assert_readings([ask("a", "x", 0, 0)], "", [{"a": ""}])
        self.assert_readings([ask("a", "x", 0, 0)], "x", [])

    def test_rows_alone(self):
        pieces = [("rows", "r", [("say", "-"), ask("a", "xy", 0, 1)], ", ", 0, 3)]
        self.assert_readings(pieces, "", [{"r": []}])
        self.assert_readings(pieces, "-", [{"r": [{"a": ""}]}])
        self.assert_readings(pieces, "-x, -", [{"r": [{"a": "x"}, {"a": ""}]}])
        self.assert_readings(pieces, "-x, -y, -x", [{"r": [{"a": "x"}, {"a": "y"}, {"a": "x"}]}])
        for text in ("-x,-y", "-x, ", ", -x", "-x-y", "-, -, -, -"):
            self.assert_readings(pieces, text, [])

    def test_rows_have_just_their_own_names(self):
        pieces = [ask("a", "x", 1, 1), ("rows", "r", [ask("a", "y", 1, 1), ask("r", "z", 1, 1)], "", 0, 2)]
        self.assert_readings(pieces, "xyzyz", [{"a": "x", "r": [{"a": "y", "r": "z"}, {"a": "y", "r": "z"}]}])
        self.assert_readings([("rows", "r", [("say", "x")], ",", 0, 3)], "x,x", [{"r": [{}, {}]}])

    def test_signs_that_no_form_has(self):
        for text in ("?", "x?", "\u00e4", "\t", "x" * 1100):
            self.assert_readings([ask("a", "xy", 0, 4)], text, [])


class Order(ReadingTest):
    def test_a_field_that_ends_earlier(self):
        expected = [{"a": "", "b": "xx"}, {"a": "x", "b": "x"}, {"a": "xx", "b": ""}]
        self.assert_readings([ask("a"), ask("b")], "xx", expected)
        self.assert_readings([ask("b"), ask("a")], "xx", expected[::-1])

    def test_the_first_parting_decides(self):
        pieces = [ask("a", most=1), ask("b", most=2), ask("c", most=2)]
        expected = [{"a": "", "b": "", "c": "xx"}, {"a": "", "b": "x", "c": "x"}, {"a": "", "b": "xx", "c": ""},
                    {"a": "x", "b": "", "c": "x"}, {"a": "x", "b": "x", "c": ""}]
        self.assert_readings(pieces, "xx", expected)

    def test_a_row_that_does_not_come(self):
        pieces = [("rows", "r", [("say", "x")], "", 0, 2), ask("a")]
        expected = [{"r": [], "a": "xx"}, {"r": [{}], "a": "x"}, {"r": [{}, {}], "a": ""}]
        self.assert_readings(pieces, "xx", expected)

    def test_rows_that_are_empty_texts(self):
        pieces = [("rows", "r", [ask("a", most=1)], "", 0, 2)]
        self.assert_readings(pieces, "", [{"r": []}, {"r": [{"a": ""}]}, {"r": [{"a": ""}, {"a": ""}]}])
        expected = [{"r": [{"a": ""}, {"a": "x"}]}, {"r": [{"a": "x"}]}, {"r": [{"a": "x"}, {"a": ""}]}]
        self.assert_readings(pieces, "x", expected)
        self.assert_readings([("rows", "r", [ask("a")], "", 1, 2)], "", [{"r": [{"a": ""}]}, {"r": [{"a": ""}] * 2}])

    def test_a_gap_that_a_field_may_hold(self):
        pieces = [("rows", "r", [ask("a", "x,", 0, 3)], ",", 0, 3)]
        self.assert_readings(pieces, ",", [{"r": [{"a": ""}, {"a": ""}]}, {"r": [{"a": ","}]}])
        expected = [{"r": [{"a": "x"}, {"a": "x"}]}, {"r": [{"a": "x,x"}]}]
        self.assert_readings(pieces, "x,x", expected)

    def test_within_rows(self):
        pieces = [("rows", "r", [ask("a", most=1), ask("b", most=1)], "-", 1, 2), ask("c", "x-")]
        expected = [
            {"r": [{"a": "", "b": ""}], "c": "x-"},
            {"r": [{"a": "", "b": "x"}], "c": "-"},
            {"r": [{"a": "", "b": "x"}, {"a": "", "b": ""}], "c": ""},
            {"r": [{"a": "x", "b": ""}], "c": "-"},
            {"r": [{"a": "x", "b": ""}, {"a": "", "b": ""}], "c": ""},
        ]
        self.assert_readings(pieces, "x-", expected)

    def test_an_end_now_goes_ahead_of_a_longer_list_of_rows(self):
        pieces = [("rows", "r", [ask("a")], "", 0, 3), ("rows", "s", [("say", "x")], "", 0, 3)]
        found = readings(Form(pieces), "xx", 3)
        self.assertEqual(found[0], {"r": [], "s": [{}, {}]})
        self.assertEqual(found[1], {"r": [{"a": ""}], "s": [{}, {}]})
        self.assertEqual(found[2], {"r": [{"a": ""}, {"a": ""}], "s": [{}, {}]})

    def test_more_readings_than_are_asked_for(self):
        pieces = [ask(f"n{k}", "x", 0, 4) for k in range(6)]
        by_text = readings_by_text(pieces)
        self.assertGreater(len(by_text["x" * 12]), 1000)
        for length in range(26):
            self.assert_readings(pieces, "x" * length, by_text.get("x" * length, []))

    def test_number_of_readings_asked_for(self):
        form = Form([ask("a"), ask("b")])
        self.assertEqual([len(readings(form, "xx", most)) for most in (0, 1, 2, 3, 4, 1001)], [0, 1, 2, 3, 3, 3])


class AllFillings(ReadingTest):
    def test_small_forms(self):
        kinds_seen = [0, 0, 0]
        for pieces in small_forms():
            with self.subTest(pieces=pieces):
                by_text = readings_by_text(pieces)
                for text, expected in by_text.items():
                    self.assert_readings(pieces, text, expected)
                    self.assert_fit(pieces, text)
                    kinds_seen[min(len(expected), 2)] += 1
                for text in self.other_texts(by_text):
                    self.assert_readings(pieces, text, [])
                    kinds_seen[0] += 1
        self.assertGreater(min(kinds_seen), 1000)

    def assert_fit(self, pieces, text):
        form = Form(pieces)
        found = readings(form, text, 1000)
        for reading in found:
            self.assertEqual(fill(form, reading), text)
        for one, other in itertools.combinations(found[:30], 2):
            self.assertNotEqual(one, other)

    def other_texts(self, by_text):
        """Short texts, and those next to a text with readings, that have none."""
        texts = ["".join(signs) for n in range(4) for signs in itertools.product("xy,", repeat=n)]
        for text in list(by_text)[:40]:
            texts += [text + "x", "x" + text, text[1:], text[:-1], text[1:] + text[:1], text + "?"]
        return [text for text in sorted(set(texts)) if text not in by_text]


class Telling(unittest.TestCase):
    PIECES = [("rows", "r", [ask("a"), ask("b")], "", 0, 3), ask("c")]

    def test_the_kinds_told(self):
        form = Form(self.PIECES)
        found = readings(form, "xxx", 1000)
        self.assertIs(type(found), list)
        for reading in found:
            self.assertIs(type(reading), dict)
            self.assertIs(type(reading["r"]), list)
            self.assertIs(type(reading["c"]), str)
            for row in reading["r"]:
                self.assertIs(type(row), dict)
                self.assertEqual(sorted(row), ["a", "b"])

    def test_what_readings_told_may_be_emptied(self):
        form = Form(self.PIECES)
        first = readings(form, "xxx", 1000)
        kept = copy.deepcopy(first)
        emptied(first)
        self.assertEqual(first, [])
        self.assertEqual(readings(form, "xxx", 1000), kept)

    def test_readings_share_nothing(self):
        found = readings(Form(self.PIECES), "xxx", 1000)
        kept = copy.deepcopy(found)
        for k, reading in enumerate(found):
            emptied(reading)
            self.assertEqual(found[k + 1:], kept[k + 1:])

    def test_rows_of_one_reading_share_nothing(self):
        reading = read(Form([("rows", "r", [ask("a")], ",", 0, 3)]), ",,")
        reading["r"][0]["a"] = "changed"
        self.assertEqual(reading, {"r": [{"a": "changed"}, {"a": ""}, {"a": ""}]})

    def test_what_read_told_may_be_emptied(self):
        form = Form(LETTER)
        text = "Dear a:\n- x;\n- y1\nBye"
        first = read(form, text)
        kept = copy.deepcopy(first)
        emptied(first)
        self.assertEqual(read(form, text), kept)

    def test_what_the_refusal_told_may_be_emptied(self):
        form = Form(self.PIECES)
        with self.assertRaises(Twofold) as caught:
            read(form, "xxx")
        kept = copy.deepcopy([caught.exception.one, caught.exception.other])
        self.assertEqual(kept, readings(form, "xxx"))
        emptied(caught.exception.one)
        self.assertEqual(caught.exception.other, kept[1])
        emptied(caught.exception.other)
        with self.assertRaises(Twofold) as again:
            read(form, "xxx")
        self.assertEqual([again.exception.one, again.exception.other], kept)

    def test_no_reading_is_refused_again_and_again(self):
        form = Form(self.PIECES)
        for text in ("y", "x" * 15, "xy"):
            for _ in range(2):
                with self.assertRaises(NoReading) as caught:
                    read(form, text)
                self.assertIsInstance(caught.exception, FormError)

    def test_the_lists_handed_in_may_change(self):
        within = [ask("a")]
        pieces = [("rows", "r", within, ",", 0, 3)]
        form = Form(pieces)
        within.append(("say", "y"))
        pieces.clear()
        form.pieces.clear()
        self.assertEqual(read(form, "x,"), {"r": [{"a": "x"}, {"a": ""}]})


class Largest(ReadingTest):
    """Bearable is 10 seconds for any one answer; going through the readings one by one would take years."""

    A12 = "a" * 12

    def forms(self):
        """Pieces, and the longest text of `a` that they write."""
        yield [ask(f"n{k}", "a", 0, 4) for k in range(6)], 24
        yield largest_form(), 216
        yield largest_form("abcdefghijklmnopqrst"), 216
        yield largest_form(gap="a"), 228
        yield largest_form(gap="aaaaa", least=1), 276
        yield [("rows", f"n{k}", [("say", self.A12)] * 3, "aaaaa", 0, 3) for k in range(6)], 708
        yield [("rows", f"n{k}", [ask("x", "a", 0, 4), ("say", self.A12), ask("y", "a", 0, 4)], "", 0, 3)
               for k in range(6)], 360

    def test_texts_of_all_lengths(self):
        for pieces, longest in self.forms():
            form = Form(pieces)
            for length in range(longest + 3):
                with self.subTest(pieces=pieces, length=length), at_most(10):
                    self.assert_first(pieces, form, "a" * length, 2)
                    self.assertEqual(readings(form, "a" * length + "?"), [])
                    self.assertEqual(readings(form, "?" + "a" * length), [])
            with at_most(10):
                self.assertEqual(len(readings(form, "a" * longest)), 1)
                self.assertEqual(readings(form, "a" * (longest + 1)), [])

    def test_many_readings(self):
        for pieces, longest in self.forms():
            form = Form(pieces)
            for length in range(0, longest + 20, 1 + longest // 12):
                with self.subTest(pieces=pieces, length=length), at_most(10):
                    self.assert_first(pieces, form, "a" * length, 1000)
        with at_most(10):
            self.assertEqual(len(readings(Form(largest_form()), "a" * 100, 1000)), 1000)

    def assert_first(self, pieces, form, text, most):
        found = readings(form, text, most)
        self.assertLessEqual(len(found), most)
        places = [place_in_order(pieces, reading) for reading in found]
        self.assertEqual(places, sorted(places))
        self.assertEqual(len(set(map(tuple, places))), len(found))
        for reading in found:
            self.assertEqual(written(pieces, reading), text)

    def test_none_is_left_out(self):
        for pieces, longest in self.forms():
            form = Form(pieces)
            for length in (0, 1, longest // 3, longest // 2, longest - 2):
                with self.subTest(pieces=pieces, length=length):
                    found = readings(form, "a" * length, 1000)
                    expected = itertools.islice(places_of_readings(pieces, "a" * length), 1000)
                    self.assertEqual([place_in_order(pieces, reading) for reading in found], list(expected))

    def test_the_first_of_very_many(self):
        none = {"x": "", "y": "", "z": ""}
        lasts = ({"x": "", "y": "", "z": "a"}, {"x": "", "y": "a", "z": ""})
        expected = [{"n0": [], "n1": [], "n2": [], "n3": [], "n4": [], "n5": [none, none, last]} for last in lasts]
        self.assertEqual(readings(Form(largest_form()), "a"), expected)

    def test_texts_of_1000_signs(self):
        for pieces, _ in self.forms():
            form = Form(pieces)
            for text in ("a" * 1000, "ab" * 500, "a" * 999 + "?"):
                for most in (2, 1000):
                    with self.subTest(pieces=pieces, text=text), at_most(10):
                        self.assertEqual(readings(form, text, most), [])
                with at_most(10), self.assertRaises(NoReading):
                    read(form, text)

    def test_many_beginnings_and_no_reading(self):
        form = Form(largest_form()[:5] + [("say", "b")])
        for length in list(range(1, 190, 7)) + [1000]:
            for text in ("a" * length, "a" * length + "c", "a" * length + "bb", "b" + "a" * length):
                with self.subTest(text=text), at_most(10):
                    self.assertEqual(readings(form, text, 1000), [])
            with at_most(10):
                self.assertEqual(len(readings(form, "a" * length + "b")), 2 if length < 180 else 0)

    def test_read(self):
        form = Form(largest_form())
        with at_most(10):
            with self.assertRaises(Twofold) as caught:
                read(form, "a" * 100)
            self.assertEqual([caught.exception.one, caught.exception.other], readings(form, "a" * 100))
            self.assertEqual(read(form, "a" * 216), {f"n{k}": [dict.fromkeys("xyz", "aaaa")] * 3 for k in range(6)})


if __name__ == "__main__":
    unittest.main()
