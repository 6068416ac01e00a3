"""[1.1] and [1.7]: texts cut into tokens."""

from helpers import NO_SEQUENCES, Checks
from undocells.errors import BadText
from undocells.lex import cut_text, is_name, take_name, take_sign

KEYWORDS = "fun let repeat if else give pick table routine from loop until fi local end call back".split()
SIGNS = "{ } ( ) [ ] , ; = + - * & | ^ == < << >> += -= ^= <=>".split()


def kinds(text):
    return [token[:2] for token in cut_text(text, 3000)[:-1]]


class Cutting(Checks):

    def test_kinds_values_and_spots(self):
        got = cut_text("let ab1 = 40\n+x;", 100)
        self.same(got, (("word", "let", 0), ("name", "ab1", 4), ("sign", "=", 8), ("number", 40, 10), ("sign", "+", 13),
                        ("name", "x", 14), ("sign", ";", 15), ("end", "", 16)))

    def test_all_letters_and_figures(self):
        for letter in "abcdefghijklmnopqrstuvwxyz":
            self.same(kinds(letter), [("name", letter)])
            self.same(kinds("x" + letter), [("name", "x" + letter)])
        for figure in "0123456789":
            self.same(kinds(figure), [("number", int(figure))])
            self.same(kinds("x" + figure), [("name", "x" + figure)])

    def test_very_long_numbers(self):
        for figures in ("1" * 59999, "0" * 59999):
            self.fails(BadText(1, "number"), cut_text, " " + figures, 60000)

    def test_empty_texts(self):
        self.same(cut_text("", 0), (("end", "", 0),))
        self.same(cut_text(" \n ", 3), (("end", "", 3),))

    def test_no_string(self):
        for thing in NO_SEQUENCES[:2] + NO_SEQUENCES[3:] + (["fun"], b"fun"):
            self.fails(BadText(-1, "text"), cut_text, thing, 10)

    def test_the_greatest_length_and_one_more(self):
        self.same(cut_text("x " * 5, 10)[-1], ("end", "", 10))
        self.fails(BadText(-1, "long"), cut_text, "x " * 5 + "x", 10)
        self.fails(BadText(-1, "long"), cut_text, "$" * 11, 10)
        self.same(len(cut_text(" " * 3000, 3000)), 1)
        self.fails(BadText(-1, "long"), cut_text, " " * 3001, 3000)

    def test_all_keywords_are_words(self):
        for word in KEYWORDS:
            self.same(kinds(word), [("word", word)])
            self.same(kinds(word + "1"), [("name", word + "1")])
            self.same(kinds("a" + word)[0][0], "name")

    def test_all_signs_are_signs(self):
        for sign in SIGNS:
            self.same(kinds(sign), [("sign", sign)])

    def test_the_longest_sign_that_fits(self):
        for one in SIGNS:
            for other in SIGNS:
                text = one + other
                want, at = [], 0
                while at < len(text):
                    fitting = [sign for sign in SIGNS if text.startswith(sign, at)]
                    if not fitting:
                        want = None
                        break
                    want.append(("sign", max(fitting, key=len)))
                    at += len(want[-1][1])
                if want is None:
                    self.fails(BadText(at, "sign"), cut_text, text, 9)
                else:
                    self.same(kinds(text), want)
        self.same(kinds("<=>"), [("sign", "<=>")])
        self.same(kinds("<="), [("sign", "<"), ("sign", "=")])
        self.same(kinds("<<="), [("sign", "<<"), ("sign", "=")])
        self.same(kinds("==="), [("sign", "=="), ("sign", "=")])
        self.same(kinds("*="), [("sign", "*"), ("sign", "=")])

    def test_names_of_8_and_9_characters(self):
        self.same(kinds("abcdefgh"), [("name", "abcdefgh")])
        self.same(kinds("a2345678"), [("name", "a2345678")])
        self.fails(BadText(2, "name"), cut_text, "1+abcdefghi", 99)
        self.fails(BadText(1, "name"), cut_text, " a23456789", 99)

    def test_numbers(self):
        for number in (0, 1, 9, 10, 999, 1000, 4095):
            self.same(kinds(str(number)), [("number", number)])
        for figures in ("4096", "5000", "9999", "10000", "00", "01", "007", "0000", "1" * 2900, "0" * 2900):
            self.fails(BadText(1, "number"), cut_text, "(" + figures + ")", 3000)

    def test_numbers_end_where_a_word_begins(self):
        self.same(kinds("12ab3 4"), [("number", 12), ("name", "ab3"), ("number", 4)])
        self.same(kinds("0x"), [("number", 0), ("name", "x")])

    def test_other_characters(self):
        for character in "ABZ_.:!?%$#@~'\"\\/>\t\r\x00\x0b\xa0\xb2\u0661\u00e4\u2003":
            self.fails(BadText(2, "sign"), cut_text, "a " + character, 99)
            self.fails(BadText(1, "sign"), cut_text, "a" + character, 99)
            self.fails(BadText(1, "sign"), cut_text, "1" + character, 99)

    def test_the_first_fault_is_raised(self):
        self.fails(BadText(0, "number"), cut_text, "01 $ abcdefghi", 99)
        self.fails(BadText(0, "sign"), cut_text, "$ 01", 99)
        self.fails(BadText(0, "name"), cut_text, "abcdefghi 01", 99)

    def test_20_and_21_brackets(self):
        for bracket in "{([":
            self.same(len(cut_text(bracket * 20, 99)), 21)
            self.fails(BadText(20, "deep"), cut_text, bracket * 21, 99)
            self.fails(BadText(22, "deep"), cut_text, bracket * 20 + "x " + bracket + "$", 99)
        self.same(len(cut_text("{([" * 6 + "([", 99)), 21)
        self.fails(BadText(20, "deep"), cut_text, "{([" * 7, 99)

    def test_closing_brackets_count_down_whatever_they_are(self):
        for bracket in "})]":
            self.same(len(cut_text("(" * 20 + bracket + "(", 99)), 23)
            self.fails(BadText(22, "deep"), cut_text, "(" * 20 + bracket + "((", 99)

    def test_closing_brackets_do_not_count_below_0(self):
        self.same(len(cut_text(")" * 9 + "(" * 20, 99)), 30)
        self.fails(BadText(29, "deep"), cut_text, ")" * 9 + "(" * 21, 99)
        self.same(len(cut_text("()" * 40, 99)), 81)


class Names(Checks):

    def test_names(self):
        for text in ("a", "z9", "abcdefgh", "x1234567", "funs", "le"):
            self.assertIs(is_name(text), True)

    def test_no_names(self):
        for text in ("", "1", "1a", "abcdefghi", "A", "aB", "a_b", "a b", " a", "a ", "a\n", "a-b", "\u00e4", "a\u00e4",
                     "a\u00b2", *KEYWORDS, None, 1, True, b"a", ["a"], ("a",), {"a": 1}):
            self.assertIs(is_name(text), False)


class Taking(Checks):

    def setUp(self):
        self.tokens = cut_text("let a = 3;", 99)

    def test_take_sign(self):
        self.same(take_sign(self.tokens, 0, "let"), 1)
        self.same(take_sign(self.tokens, 2, "="), 3)
        self.same(take_sign(self.tokens, 4, ";"), 5)
        for at, spot in ((0, 0), (1, 4), (3, 8), (4, 9), (5, 10)):
            self.fails(BadText(spot, "want"), take_sign, self.tokens, at, "=")

    def test_names_numbers_and_the_end_are_no_signs(self):
        self.fails(BadText(4, "want"), take_sign, self.tokens, 1, "a")
        self.fails(BadText(8, "want"), take_sign, self.tokens, 3, "3")
        self.fails(BadText(8, "want"), take_sign, self.tokens, 3, 3)
        self.fails(BadText(10, "want"), take_sign, self.tokens, 5, "")

    def test_take_name(self):
        self.same(take_name(self.tokens, 1), ("a", 2))
        for at, spot in ((0, 0), (2, 6), (3, 8), (5, 10)):
            self.fails(BadText(spot, "want"), take_name, self.tokens, at)

    def test_tokens_may_be_a_list(self):
        self.same(take_name(list(self.tokens), 1), ("a", 2))
        self.same(take_sign(list(self.tokens), 2, "="), 3)
