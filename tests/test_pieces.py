import copy
import string
import unittest

from letterform.errors import BadForm
from letterform.filling import fill
from letterform.pieces import Form, names_of

SIGNS = string.ascii_letters + string.digits + " .,:;-/()\n"
NOT_SIGNS = "\t\r\x0b\x0c\x00\x7f!\"#$%&'*+<=>?@[]\\^_`{|}~\u00e4\u00df\u0660\u00b2\u00a0\u2028\u0430\U0001f600"


def say(text="Dear "):
    return ("say", text)


def ask(name="n", signs="ab", least=0, most=2):
    return ("ask", name, signs, least, most)


def rows(name="r", pieces=None, gap=", ", least=0, most=2):
    return ("rows", name, [ask()] if pieces is None else pieces, gap, least, most)


class FormTest(unittest.TestCase):
    def assert_taken(self, pieces):
        told = copy.deepcopy(pieces)
        form = Form(pieces)
        self.assertEqual(form.pieces, told)
        self.assertIsInstance(form.pieces, list)
        self.assertEqual(pieces, told)

    def assert_refused(self, pieces):
        told = copy.deepcopy(pieces)
        with self.assertRaises(BadForm):
            Form(pieces)
        self.assertEqual(pieces, told)


class Keeping(FormTest):
    SIX = [say(), ask("who"), say("\n"), rows("list", [say("- "), ask("what"), ask("many")]), rows("who2"), say("end")]

    def test_one_piece_of_each_kind(self):
        for piece in (say(), ask(), rows()):
            with self.subTest(piece=piece):
                self.assert_taken([piece])

    def test_six_pieces(self):
        self.assert_taken(copy.deepcopy(self.SIX))

    def test_rows_of_one_to_three_pieces(self):
        parts = [say(), ask("x"), ask("y")]
        for number in (1, 2, 3):
            with self.subTest(number=number):
                self.assert_taken([rows(pieces=parts[:number])])

    def test_the_pieces_of_rows_are_a_list(self):
        self.assertIsInstance(Form([rows()]).pieces[0][2], list)

    def test_names_in_order_without_those_within_rows(self):
        names = names_of(Form(self.SIX))
        self.assertEqual(names, ["who", "list", "who2"])
        self.assertIsInstance(names, list)
        self.assertEqual(names_of(Form([ask("z"), ask("a"), rows("m"), ask("b")])), ["z", "a", "m", "b"])

    def test_no_names(self):
        self.assertEqual(names_of(Form([say()])), [])

    def test_lists_handed_in_may_change_later(self):
        within = [say("- "), ask("what", "xy", 1, 2)]
        pieces = [ask("who"), rows("list", within, ";")]
        told = copy.deepcopy(pieces)
        form = Form(pieces)
        within.append(ask("more"))
        within[0] = say("changed")
        pieces[0] = ask("other")
        pieces.append(say("!"))
        self.assert_as_told(form, told)
        within.clear()
        pieces.clear()
        self.assert_as_told(form, told)

    def test_what_is_told_may_be_changed(self):
        pieces = [ask("who"), rows("list", [say("- "), ask("what", "xy", 1, 2)], ";")]
        told = copy.deepcopy(pieces)
        form = Form(pieces)
        names = names_of(form)
        names.reverse()
        names.append("more")
        self.assert_as_told(form, told)
        form.pieces[1][2].clear()
        form.pieces.pop()
        form.pieces[0] = say("changed")
        self.assertEqual(names_of(form), ["who", "list"])
        self.assertEqual(self.filled(form), "ab- x;- yy")
        self.assertEqual(pieces, told)

    def test_one_list_in_two_rows_and_two_forms(self):
        within = [ask("what", "xy", 1, 2)]
        one = Form([rows("a", within), rows("b", within)])
        other = Form([rows("a", within)])
        one.pieces[0][2].clear()
        self.assertEqual(one.pieces[1], rows("b", [ask("what", "xy", 1, 2)]))
        self.assertEqual(other.pieces, [rows("a", [ask("what", "xy", 1, 2)])])
        self.assertEqual(within, [ask("what", "xy", 1, 2)])

    def filled(self, form):
        return fill(form, {"who": "ab", "list": [{"what": "x"}, {"what": "yy"}]})

    def assert_as_told(self, form, told):
        self.assertEqual(form.pieces, told)
        self.assertEqual(names_of(form), ["who", "list"])
        self.assertEqual(self.filled(form), "ab- x;- yy")


class Bounds(FormTest):
    def test_number_of_pieces(self):
        self.assert_taken([say()])
        self.assert_taken([say()] * 6)
        self.assert_refused([])
        self.assert_refused([say()] * 7)

    def test_length_of_a_say(self):
        for wrap in (lambda piece: [piece], lambda piece: [rows(pieces=[piece])]):
            self.assert_taken(wrap(say("x")))
            self.assert_taken(wrap(say("x" * 12)))
            self.assert_refused(wrap(say("")))
            self.assert_refused(wrap(say("x" * 13)))

    def test_length_of_signs(self):
        for wrap in (lambda piece: [piece], lambda piece: [rows(pieces=[piece])]):
            self.assert_taken(wrap(ask(signs="a")))
            self.assert_taken(wrap(ask(signs=SIGNS[:20])))
            self.assert_refused(wrap(ask(signs="")))
            self.assert_refused(wrap(ask(signs=SIGNS[:21])))
            self.assert_refused(wrap(ask(signs="", least=0, most=0)))

    def test_length_of_a_gap(self):
        self.assert_taken([rows(gap="")])
        self.assert_taken([rows(gap="-----")])
        self.assert_refused([rows(gap="------")])

    def test_number_of_pieces_of_rows(self):
        self.assert_taken([rows(pieces=[say()])])
        self.assert_taken([rows(pieces=[say()] * 3)])
        self.assert_refused([rows(pieces=[])])
        self.assert_refused([rows(pieces=[say()] * 4)])

    def test_least_and_most_of_an_ask(self):
        for wrap in (lambda piece: [piece], lambda piece: [rows(pieces=[piece])]):
            self.assert_least_and_most(lambda least, most: wrap(ask(least=least, most=most)), 4)

    def test_least_and_most_of_rows(self):
        self.assert_least_and_most(lambda least, most: [rows(least=least, most=most)], 3)

    def assert_least_and_most(self, made, highest):
        for least in range(-2, highest + 3):
            for most in range(-2, highest + 3):
                with self.subTest(least=least, most=most):
                    if 0 <= least <= most <= highest:
                        self.assert_taken(made(least, most))
                    else:
                        self.assert_refused(made(least, most))

    def test_a_fault_behind_other_pieces(self):
        self.assert_refused([say(), ask(), rows(), say("")])
        self.assert_refused([rows(pieces=[say(), ask(), say("")])])


class Signs(FormTest):
    def test_each_sign_is_taken(self):
        for sign in SIGNS:
            with self.subTest(sign=sign):
                self.assert_taken([say(sign), ask(signs=sign), rows(gap=sign)])
                self.assert_taken([rows(pieces=[say(sign), ask(signs=sign)])])

    def test_others_are_refused(self):
        for sign in NOT_SIGNS:
            for text in (sign, "a" + sign, sign + "a"):
                with self.subTest(text=text):
                    self.assert_refused([say(text)])
                    self.assert_refused([ask(signs=text)])
                    self.assert_refused([rows(gap=text)])
                    self.assert_refused([rows(pieces=[say(text)])])
                    self.assert_refused([rows(pieces=[ask(signs=text)])])

    def test_two_signs_alike(self):
        for signs in ("aa", "aba", "  ", "abcdefghijklmnopqrsa"):
            with self.subTest(signs=signs):
                self.assert_refused([ask(signs=signs)])
                self.assert_refused([rows(pieces=[ask(signs=signs)])])
        self.assert_taken([ask(signs="aA")])

    def test_signs_come_twice_in_says_and_gaps(self):
        self.assert_taken([say("aa"), rows(gap="--")])


class Names(FormTest):
    def test_the_empty_name(self):
        self.assert_refused([ask("")])
        self.assert_refused([rows("")])
        self.assert_refused([rows(pieces=[ask("")])])

    def test_names_of_any_signs(self):
        for name in ("!", "\t", "\u00e4\u4e2d\U0001f600", " ", "say", "x" * 100):
            with self.subTest(name=name):
                self.assert_taken([ask(name)])
                self.assert_taken([rows(name, [ask(name)])])
                self.assertEqual(names_of(Form([ask(name)])), [name])

    def test_one_name_twice_among_the_pieces(self):
        self.assert_refused([ask("a"), ask("a")])
        self.assert_refused([rows("a"), rows("a")])
        self.assert_refused([ask("a"), say(), rows("a")])
        self.assert_refused([rows("a"), ask("b"), ask("a")])

    def test_one_name_twice_in_one_list_of_rows(self):
        self.assert_refused([rows(pieces=[ask("a"), ask("a")])])
        self.assert_refused([rows(pieces=[ask("a"), say(), ask("a")])])

    def test_a_name_within_rows_may_stand_elsewhere(self):
        self.assert_taken([ask("a"), rows("r", [ask("a")])])
        self.assert_taken([rows("r", [ask("r")])])
        self.assert_taken([rows("r", [ask("a"), ask("b")]), rows("s", [ask("a"), ask("r")])])

    def test_names_differ_by_case(self):
        self.assert_taken([ask("a"), ask("A"), ask("a ")])

    def test_says_have_no_names(self):
        self.assert_taken([say("a"), say("a"), ask("a")])


class Shapes(FormTest):
    def test_rows_within_rows(self):
        self.assert_refused([rows(pieces=[rows("s")])])
        self.assert_refused([rows(pieces=[say(), ask(), rows("s")])])

    def test_other_words_and_numbers_of_things(self):
        for piece in ((), ("tell", "a"), ("say",), ("say", "a", "b"), ask() + (1,), ask()[:4], rows() + (1,), rows()[:5]):
            with self.subTest(piece=piece):
                self.assert_refused([piece])
                self.assert_refused([rows(pieces=[piece])])


if __name__ == "__main__":
    unittest.main()
