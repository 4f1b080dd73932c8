import copy
import unittest

from fillings import at_most, emptied, largest_form, place_in_order, readings_by_text, small_forms, written
from letterform.judging import judged, single
from letterform.pieces import Form
from letterform.reading import readings


def ask(name, signs="x", least=0, most=2):
    return ("ask", name, signs, least, most)


class JudgingTest(unittest.TestCase):
    def assert_single(self, pieces):
        form = Form(pieces)
        self.assertIsNone(judged(form))
        self.assertIs(single(form), True)

    def assert_twofold(self, pieces):
        form = Form(pieces)
        told = judged(form)
        self.assertIs(type(told), tuple)
        text, one, other = told
        self.assertIs(type(text), str)
        self.assertEqual(readings(form, text), [one, other])
        self.assertEqual([written(pieces, one), written(pieces, other)], [text, text])
        self.assertLess(place_in_order(pieces, one), place_in_order(pieces, other))
        self.assertIs(single(form), False)
        return told


class Judged(JudgingTest):
    def test_one_piece(self):
        self.assert_single([("say", "x")])
        self.assert_single([ask("a", "xy", 0, 4)])
        self.assert_single([ask("a", "xy", 0, 0)])
        self.assert_single([("rows", "r", [("say", "x")], "", 0, 3)])
        self.assert_single([("rows", "r", [("say", "x")], "", 0, 0)])

    def test_two_fields(self):
        self.assert_twofold([ask("a"), ask("b")])
        self.assert_single([ask("a"), ask("b", "y")])
        self.assert_twofold([ask("a", "xz"), ask("b", "yz")])
        self.assert_single([ask("a"), ask("b", least=2)])
        self.assert_single([ask("a", least=0, most=0), ask("b")])
        self.assert_twofold([ask("a"), ("say", "x"), ask("b")])
        self.assert_single([ask("a"), ("say", "y"), ask("b")])
        self.assert_twofold([ask("a", "xy"), ("say", "y"), ask("b", "xy")])

    def test_lengths_that_cannot_meet(self):
        rows = ("rows", "r", [("say", "xxx")], "", 0, 3)
        self.assert_single([ask("a", most=2), rows])
        self.assert_twofold([ask("a", most=3), rows])
        self.assert_single([rows, ask("a", least=1, most=3)])
        self.assert_twofold([rows, ask("a", least=1, most=4)])

    def test_rows_that_can_be_empty_texts(self):
        told = self.assert_twofold([("rows", "r", [ask("a")], "", 0, 1)])
        self.assertEqual(told, ("", {"r": []}, {"r": [{"a": ""}]}))
        self.assert_single([("rows", "r", [ask("a")], "", 1, 1)])
        self.assert_single([("rows", "r", [ask("a")], ",", 1, 3)])
        self.assert_twofold([("rows", "r", [ask("a")], ",", 0, 3)])
        self.assert_twofold([("rows", "r", [ask("a", most=0)], "", 1, 2)])
        self.assert_single([("rows", "r", [ask("a", most=0)], ",", 1, 3)])

    def test_gaps(self):
        self.assert_twofold([("rows", "r", [ask("a", "x,", 1, 3)], ",", 0, 3)])
        self.assert_single([("rows", "r", [ask("a", "x,", 1, 2)], ",,,", 0, 1)])
        self.assert_single([("rows", "r", [ask("a", "x,", 2, 2)], ",", 0, 3)])
        self.assert_twofold([("rows", "r", [ask("a", "x", 1, 2)], "", 0, 3)])
        self.assert_twofold([("rows", "r", [("say", "x")], "y", 0, 2), ask("a", "xy", 0, 2)])

    def test_a_letter(self):
        letter = [("say", "Dear "), ask("who", "abc", 1, 4), ("say", ":\n"),
                  ("rows", "list", [("say", "- "), ask("what", "xyz", 1, 3)], "\n", 0, 3), ask("end", ".,", 0, 1)]
        self.assert_single(letter)
        self.assert_twofold(letter + [ask("more", ",", 0, 1)])

    def test_small_forms(self):
        seen = {True: 0, False: 0}
        for pieces in small_forms():
            with self.subTest(pieces=pieces):
                by_text = readings_by_text(pieces)
                is_single = max(len(found) for found in by_text.values()) == 1
                seen[is_single] += 1
                if is_single:
                    self.assert_single(pieces)
                else:
                    text, one, other = self.assert_twofold(pieces)
                    self.assertEqual([one, other], by_text[text][:2])
        self.assertGreater(min(seen.values()), 100)

    def test_what_was_told_may_be_emptied(self):
        pieces = [("rows", "r", [ask("a"), ask("b")], "", 1, 3), ask("c")]
        form = Form(pieces)
        first = judged(form)
        kept = copy.deepcopy(first)
        emptied(first)
        self.assertEqual(first[1:], ({}, {}))
        self.assertEqual(judged(form), kept)
        self.assertIs(single(form), False)
        self.assertEqual(form.pieces, pieces)

    def test_what_was_told_shares_nothing(self):
        told = judged(Form([("rows", "r", [ask("a"), ask("b")], "", 3, 3), ask("c")]))
        kept = copy.deepcopy(told)
        emptied(told[1])
        self.assertEqual(told[2], kept[2])

    def test_the_lists_handed_in_may_change(self):
        within = [ask("a", least=1)]
        pieces = [("rows", "r", within, ",", 0, 3)]
        form = Form(pieces)
        within.append(ask("b"))
        pieces.append(ask("c", "x,"))
        form.pieces.extend(pieces)
        self.assertIsNone(judged(form))
        self.assertIs(single(form), True)


class Largest(JudgingTest):
    """Bearable is 10 seconds for any one answer."""

    def test_twofold_forms(self):
        say = ("say", "a" * 12)
        forms = [
            [ask(f"n{k}", "a", 0, 4) for k in range(6)],
            largest_form(),
            largest_form("abcdefghijklmnopqrst"),
            largest_form(gap="a"),
            largest_form(gap="aaaaa", least=1),
            largest_form(gap="b"),
            largest_form(least=3),
            largest_form()[:5] + [("say", "b")],
            [("rows", f"n{k}", [say] * 3, "aaaaa", 0, 3) for k in range(6)],
            [("rows", f"n{k}", [say] * 3, "aaaaa", 2, 3) for k in range(6)],
            [("rows", f"n{k}", [ask("x", "a", 0, 4), say, ask("y", "a", 0, 4)], "", 0, 3) for k in range(6)],
        ]
        for pieces in forms:
            with self.subTest(pieces=pieces), at_most(10):
                self.assert_twofold(pieces)

    def test_single_forms(self):
        """Each row and its gap is longer than all that may come behind, or tells apart in other ways."""
        forms = [
            [self.row_of(k, length, 5, 2) for k, length in enumerate((36, 35, 34, 32, 28, 20))],
            [self.row_of(k, length, 0, 0) for k, length in enumerate((1, 4, 16))],
            [self.row_of(k, length, 0, 0) for k, length in enumerate((16, 4, 1))] + [("say", "b")] * 3,
            [("rows", f"n{k}", [ask("x", "a", 4, 4), ("say", "a" * 12), ("say", "a" * 12)], "aaaaa", 3, 3)
             for k in range(6)],
            [("rows", f"n{k}", [ask("x", "abcd", 0, 4), ("say", "-"), ask("y", "abcd", 0, 4)], "/", 1, 3)
             if k % 2 == 0 else ("say", ";") for k in range(6)],
            [("rows", f"n{k}", [ask(name, "abcdefghijklmnopqrst"[k::6], 4, 4) for name in "xyz"], "", 0, 3)
             for k in range(6)],
        ]
        for pieces in forms:
            with self.subTest(pieces=pieces), at_most(10):
                self.assert_single(pieces)

    def test_a_single_form_with_very_many_beginnings_of_two_readings(self):
        """With the first row or without it, all goes on alike, by 25 ways a row, until one lacks a row at the end."""
        within = [ask("x", "a", 0, 4), ("say", "-"), ask("y", "b", 0, 4)]
        rows = [("rows", f"n{k}", within, "", 3, 3) for k in range(5)]
        with at_most(10):
            self.assert_single([("rows", "first", within, "", 0, 1)] + rows)
            self.assert_twofold([("rows", "first", within, "", 0, 1)] + rows[:4] + [("rows", "last", within, "", 2, 3)])

    def row_of(self, number, length, gap, least):
        lengths = [min(12, length - done) for done in range(0, length, 12)]
        return ("rows", f"n{number}", [("say", "a" * n) for n in lengths], "a" * gap, least, 3)


if __name__ == "__main__":
    unittest.main()
