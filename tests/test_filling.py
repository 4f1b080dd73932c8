import collections
import copy
import unittest

from letterform.errors import BadValue
from letterform.filling import fill
from letterform.pieces import Form

LETTER = [
    ("say", "Dear "),
    ("ask", "who", "abc", 1, 4),
    ("say", ":\n"),
    ("rows", "list", [("say", "- "), ("ask", "what", "xyz", 1, 3), ("ask", "many", "0123", 0, 2)], ";\n", 1, 3),
    ("ask", "end", ".,", 0, 1),
]


class FillTest(unittest.TestCase):
    def assert_filled(self, pieces, values, text):
        told = copy.deepcopy(values)
        form = Form(pieces)
        self.assertEqual(fill(form, values), text)
        self.assertEqual(fill(form, values), text)
        self.assertEqual(values, told)

    def assert_refused(self, pieces, values, name):
        told = copy.deepcopy(values)
        form = Form(pieces)
        with self.assertRaises(BadValue) as caught:
            fill(form, values)
        self.assertEqual(caught.exception.name, name)
        self.assertEqual(values, told)


class Filling(FillTest):
    def test_a_letter(self):
        values = {"who": "abba", "list": [{"what": "x", "many": "10"}, {"what": "zzy", "many": ""}], "end": "."}
        self.assert_filled(LETTER, values, "Dear abba:\n- x10;\n- zzy.")

    def test_says_alone(self):
        self.assert_filled([("say", "a"), ("say", "(b)")], {}, "a(b)")

    def test_empty_and_longest_values(self):
        pieces = [("say", "("), ("ask", "a", "xy", 0, 4), ("say", ")")]
        self.assert_filled(pieces, {"a": ""}, "()")
        self.assert_filled(pieces, {"a": "xyxx"}, "(xyxx)")
        self.assert_filled([("ask", "a", "xy", 0, 0)], {"a": ""}, "")
        self.assert_filled([("ask", "a", "xy", 4, 4)], {"a": "yyyy"}, "yyyy")

    def test_each_length_between(self):
        for length in (1, 2, 3):
            self.assert_filled([("ask", "a", "x", 1, 3)], {"a": "x" * length}, "x" * length)

    def test_no_row_one_and_several(self):
        for gap in ("", ",", " ; \n-"):
            pieces = [("say", "("), ("rows", "r", [("ask", "a", "xy", 0, 2)], gap, 0, 3), ("say", ")")]
            with self.subTest(gap=gap):
                self.assert_filled(pieces, {"r": []}, "()")
                self.assert_filled(pieces, {"r": [{"a": "x"}]}, "(x)")
                self.assert_filled(pieces, {"r": [{"a": "x"}, {"a": "yy"}]}, "(x" + gap + "yy)")
                self.assert_filled(pieces, {"r": [{"a": ""}, {"a": "y"}, {"a": ""}]}, "(" + gap + "y" + gap + ")")
                self.assert_filled(pieces, {"r": [{"a": ""}]}, "()")

    def test_rows_of_no_row_at_most(self):
        self.assert_filled([("rows", "r", [("say", "x")], ",", 0, 0)], {"r": []}, "")

    def test_rows_of_says_alone(self):
        self.assert_filled([("rows", "r", [("say", "x")], ",", 0, 3)], {"r": [{}, {}, {}]}, "x,x,x")

    def test_names_come_in_any_order(self):
        self.assert_filled([("ask", "a", "x", 0, 1), ("ask", "b", "y", 0, 1)], {"b": "y", "a": "x"}, "xy")

    def test_one_name_within_rows_and_elsewhere(self):
        pieces = [("ask", "a", "x", 1, 1), ("rows", "r", [("ask", "a", "y", 1, 1), ("ask", "r", "z", 1, 1)], "", 0, 2)]
        self.assert_filled(pieces, {"a": "x", "r": [{"a": "y", "r": "z"}]}, "xyz")
        self.assert_refused(pieces, {"a": "x", "r": [{"r": "z"}]}, "a")
        self.assert_refused(pieces, {"a": "x", "r": [{"a": "y"}]}, "r")

    def test_other_names_are_not_looked_at(self):
        pieces = [("ask", "a", "x", 1, 1), ("rows", "r", [("ask", "b", "y", 1, 1)], "", 0, 2)]
        values = {"a": "x", "more": "?" * 50, "b": 3, "": None, 7: [], "r": [{"b": "y", "a": [1], "": None, "r": "?"}]}
        self.assert_filled(pieces, values, "xy")

    def test_nothing_is_put_into_the_values(self):
        values = collections.defaultdict(str)
        self.assert_refused([("ask", "a", "x", 0, 1)], values, "a")
        row = collections.defaultdict(str)
        self.assert_refused([("rows", "r", [("ask", "a", "x", 0, 1)], "", 0, 2)], {"r": [row]}, "a")
        self.assertEqual((dict(values), dict(row)), ({}, {}))

    def test_a_form_is_filled_with_one_after_another(self):
        form = Form([("ask", "a", "xy", 0, 1), ("rows", "r", [("ask", "b", "xy", 0, 1)], ",", 0, 2)])
        values = {"a": "x", "r": [{"b": "y"}]}
        self.assertEqual(fill(form, values), "xy")
        values["a"] = "y"
        values["r"].append({"b": "x"})
        self.assertEqual(fill(form, values), "yy,x")
        self.assertEqual(fill(form, {"a": "", "r": []}), "")


class OneFault(FillTest):
    ASK = [("say", "a"), ("ask", "n", "ab", 1, 3)]
    ROWS = [("rows", "r", [("say", "a"), ("ask", "n", "ab", 1, 3)], ",", 1, 2)]

    # Too short, too long, and signs that the ask has not at each place.
    WRONG = ("", "abab", "abababab", "c", "ca", "ac", "aca", "A", "?", "\u00e4", " ", "a\n")

    def test_a_name_is_lacking(self):
        self.assert_refused(self.ASK, {}, "n")
        self.assert_refused(self.ASK, {"m": "a", "N": "a"}, "n")
        self.assert_refused(self.ROWS, {}, "r")
        self.assert_refused(self.ROWS, {"n": "a"}, "r")
        self.assert_refused(self.ROWS, {"n": "a", "r": [{}]}, "n")
        self.assert_refused(self.ROWS, {"n": "a", "r": [{"n": "a"}, {"m": "a"}]}, "n")

    def test_a_name_is_lacking_where_the_least_is_none(self):
        self.assert_refused([("ask", "n", "ab", 0, 0)], {}, "n")
        self.assert_refused([("rows", "r", [("say", "a")], "", 0, 0)], {}, "r")

    def test_a_wrong_text(self):
        for text in self.WRONG:
            with self.subTest(text=text):
                self.assert_refused(self.ASK, {"n": text}, "n")
                self.assert_refused(self.ROWS, {"r": [{"n": text}]}, "n")
                self.assert_refused(self.ROWS, {"r": [{"n": "a"}, {"n": text}]}, "n")

    def test_too_few_rows_and_too_many(self):
        self.assert_refused(self.ROWS, {"r": []}, "r")
        self.assert_refused(self.ROWS, {"r": [{"n": "a"}] * 3}, "r")
        self.assert_refused([("rows", "r", [("say", "a")], "", 3, 3)], {"r": [{}, {}]}, "r")
        self.assert_refused([("rows", "r", [("say", "a")], "", 0, 0)], {"r": [{}]}, "r")


class TwoFaults(FillTest):
    ASKS = [("ask", "b", "x", 1, 2), ("ask", "a", "y", 1, 2)]

    def test_the_first_ask_in_the_form(self):
        wrong = ({}, {"n": ""}, {"n": "xyxyx"}, {"n": "?"})
        for one in wrong:
            for other in wrong:
                values = {}
                if "n" in other:
                    values["a"] = other["n"]
                if "n" in one:
                    values["b"] = one["n"]
                with self.subTest(values=values):
                    self.assert_refused(self.ASKS, values, "b")
                    self.assert_refused([("rows", "r", self.ASKS, "", 0, 1)], {"r": [values]}, "b")

    def test_the_second_ask_if_the_first_is_right(self):
        self.assert_refused(self.ASKS, {"b": "x"}, "a")
        self.assert_refused(self.ASKS, {"a": "?", "b": "x"}, "a")

    def test_rows_ahead_of_the_asks_in_them(self):
        pieces = [("rows", "r", self.ASKS, ",", 2, 2)]
        self.assert_refused(pieces, {"r": [{"b": "?"}]}, "r")
        self.assert_refused(pieces, {"r": [{"b": "?"}, {}, {}]}, "r")

    def test_row_by_row(self):
        pieces = [("rows", "r", self.ASKS, ",", 0, 3)]
        self.assert_refused(pieces, {"r": [{"b": "x", "a": "?"}, {"b": "?", "a": "y"}]}, "a")
        self.assert_refused(pieces, {"r": [{"b": "x"}, {"a": "y"}]}, "a")
        self.assert_refused(pieces, {"r": [{"b": "x", "a": "y"}, {"b": "", "a": ""}]}, "b")

    def test_asks_and_rows_in_the_order_of_the_form(self):
        one = ("ask", "n", "x", 1, 2)
        several = ("rows", "r", [("ask", "m", "y", 1, 2)], ",", 1, 2)
        self.assert_refused([one, several], {}, "n")
        self.assert_refused([several, one], {}, "r")
        self.assert_refused([one, several], {"r": [{"m": "?"}], "n": "xxx"}, "n")
        self.assert_refused([several, one], {"n": "xxx", "r": [{"m": "?"}]}, "m")
        self.assert_refused([several, one], {"n": "xxx", "r": []}, "r")
        self.assert_refused([several, one], {"n": "xxx", "r": [{"m": "y"}, {}]}, "m")
        self.assert_refused([several, one], {"n": "xxx", "r": [{"m": "y"}]}, "n")

    def test_within_rows_ahead_of_the_next_rows(self):
        one = ("rows", "r", [("ask", "m", "y", 1, 2)], ",", 1, 2)
        other = ("rows", "s", [("ask", "k", "y", 1, 2)], ",", 1, 2)
        self.assert_refused([one, other], {"r": [{"m": ""}], "s": []}, "m")
        self.assert_refused([other, one], {"r": [{"m": ""}], "s": []}, "s")


if __name__ == "__main__":
    unittest.main()
