"""[13] words."""

import unittest

import helper
from leastplans.errors import BadText, TooMuch
from leastplans.words import words_of

RESERVED = (
    "all and as asc by count desc distinct exists from group having in is join left limit max "
    "maybe min not null on or order select sum where with"
).split()


class WordsTest(helper.Case):

    def cut(self, text, *words):
        self.same(words_of(text), words + (("end", None, len(text)),))

    def test_example(self):
        self.cut("t.a>='x'", ("name", "t", 0), ("sign", ".", 1), ("name", "a", 2),
                 ("sign", ">=", 3), ("text", "x", 5))

    def test_names(self):
        for name in ("a", "z", "a_", "a9", "abcdefghijkl", "a__________9", "selects", "al", "orr", "x_all"):
            self.cut(name, ("name", name, 0))
        for run in ("abcdefghijklm", "a0123456789_b", "_a", "_", "__", "A", "aB", "Select", "AND", "tA9",
                    "a" * 2999):
            self.refused(BadText(0), words_of, run)
            self.refused(BadText(2), words_of, "( " + run)

    def test_reserved(self):
        self.assertEqual(len(RESERVED), 29)
        for word in RESERVED:
            self.cut(word, ("word", word, 0))
            self.cut(" " + word + "s", ("name", word + "s", 1))

    def test_numbers(self):
        for number in ("0", "1", "9", "10", "100000000", "123456789", "999999999"):
            self.cut(number, ("number", int(number), 0))
        for run in ("00", "01", "007", "0a", "1000000000", "1234567890", "0000000001", "1_000", "7b", "1A", "9" * 2000):
            self.refused(BadText(0), words_of, run)
        self.refused(BadText(2), words_of, "a 007")
        self.refused(BadText(2), words_of, "a 7b")
        self.cut("1.2", ("number", 1, 0), ("sign", ".", 1), ("number", 2, 2))
        self.cut("-1", ("sign", "-", 0), ("number", 1, 1))

    def test_texts(self):
        for text in ("", "a", " ", "a b", "  12  ", "(\"<>=", "select", "_", "A", "!?#", "abcdefghijkl", "            "):
            self.cut(f"'{text}'", ("text", text, 0))
            self.cut(f"1 '{text}'2", ("number", 1, 0), ("text", text, 2), ("number", 2, 4 + len(text)))
        self.cut("'a''b'", ("text", "a", 0), ("text", "b", 3))
        for text in ("'", "'abcdefghijkl", "'abcdefghijklm'", "'abcdefghijklmn'", "'" + " " * 13 + "'"):
            self.refused(BadText(0), words_of, text)
        self.refused(BadText(2), words_of, "'''")
        self.refused(BadText(3), words_of, "'a'' ")

    def test_signs(self):
        for sign in "( ) [ ] , . * + - = <> < <= > >=".split():
            self.cut(sign, ("sign", sign, 0))
            self.cut(f"a{sign}7", ("name", "a", 0), ("sign", sign, 1), ("number", 7, 1 + len(sign)))
        self.cut("<<=", ("sign", "<", 0), ("sign", "<=", 1))
        self.cut("<>=", ("sign", "<>", 0), ("sign", "=", 2))
        self.cut("<=>", ("sign", "<=", 0), ("sign", ">", 2))
        self.cut(">>==", ("sign", ">", 0), ("sign", ">=", 1), ("sign", "=", 3))
        self.cut("=<", ("sign", "=", 0), ("sign", "<", 1))
        self.cut("> =", ("sign", ">", 0), ("sign", "=", 2))
        self.cut("><", ("sign", ">", 0), ("sign", "<", 1))
        self.cut("()", ("sign", "(", 0), ("sign", ")", 1))

    def test_other_characters(self):
        for one in "!\"#$&/:;?@\\^`{|}~\n\t":
            self.refused(BadText(0), words_of, one)
            self.refused(BadText(1), words_of, "a" + one)
            self.refused(BadText(3), words_of, "1  " + one + "'")

    def test_spaces(self):
        self.cut(" ")
        self.cut("     ")
        self.cut("  a   b ", ("name", "a", 2), ("name", "b", 6))
        self.cut("1 2", ("number", 1, 0), ("number", 2, 2))

    def test_from_the_left(self):
        self.refused(BadText(1), words_of, "a! 007 '")
        self.refused(BadText(0), words_of, "007 ! '")
        self.refused(BadText(0), words_of, "'! 007")
        self.refused(BadText(2), words_of, "a A 7b")

    def test_how_long(self):
        self.refused(BadText(0), words_of, "")
        most = "abc " * 1000
        self.assertEqual(len(words_of(most)), 1001)
        self.assertEqual(len(words_of(most + " " * 9000)), 1001)
        self.refused(BadText(0), words_of, most + "a")
        self.refused(BadText(0), words_of, most + " " * 100 + "!")
        # what is too long is told ahead of what cannot be read, and that ahead of the signs
        self.refused(BadText(0), words_of, "+" * 3001)
        self.refused(TooMuch("signs"), words_of, "+" * 3000)
        self.refused(BadText(2999), words_of, "+" * 2999 + "!")

    def test_signs_counted(self):
        for word in ("+", "-", "*", "and", "or"):
            self.assertEqual(len(words_of(f" {word}" * 40)), 41)
            self.refused(TooMuch("signs"), words_of, f" {word}" * 41)
        mixed = "+ - * and or " * 8
        self.assertEqual(len(words_of(mixed)), 41)
        for word in ("+", "-", "*", "and", "or"):
            self.refused(TooMuch("signs"), words_of, mixed + word)
        for word in ("'+'", "(", ".", ",", "=", "<", "not", "maybe", "andy", "'and'"):
            self.assertEqual(len(words_of(mixed + f"{word} " * 50)), 91)
        self.refused(BadText(3 * 41), words_of, " + " * 41 + "!")


if __name__ == "__main__":
    unittest.main()
