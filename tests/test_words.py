"""[15]: the WORDS, integers as Python shows them, lines and their words."""

import unittest

from everyversion.words import integer_in, is_barred, lines_of
from samples import WORDS, News


class Words(News):

    def test_barred(self):
        for word in WORDS:
            self.so(is_barred, word)

    def test_not_barred(self):
        for word in ["", "a", "book", "num", "col", "version", "tabl", "tablex", "Table", "INT", "int ", "from0", "#",
                     "add and", "addand", "7", "nones", "keyss", "e", "page", "in", "rowsrows"]:
            self.not_so(is_barred, word)

    def test_integers(self):
        for number in [0, 1, 9, 10, 12, -1, -12, -10, 100, 10 ** 39, -(10 ** 39), 10 ** 199, -(10 ** 199),
                       10 ** 200 - 1, 1 - 10 ** 200]:
            self.assertEqual(self.told(integer_in, str(number)), number)

    def test_none(self):
        for word in ["", "-", "-0", "00", "007", "-07", "01", "--5", "5-", "-5-", "+5", "1_000", "1.0", "1e3", "a", "12a",
                     "a12", "1 ", " 1", "1\n", "0x1", "0b1", "- 5", "none", "True", "\u0663", "1\u0663", "\u00b2", "1/2",
                     "1:2", "1" * 201, "-" + "1" * 201, "0" * 200, str(10 ** 200), "9" * 3000]:
            self.assertIsNone(self.told(integer_in, word), word)

    def test_kind(self):
        self.assertIs(type(integer_in("1")), int)
        self.assertIs(type(integer_in("0")), int)


class Lines(News):

    def test_lines(self):
        for text, lines in [
                ("", []), ("\n\n", []), ("   ", []), ("#", []), ("# a b\n  # c\n#", []), ("a", [(0, ("a",))]),
                ("a b", [(0, ("a", "b"))]), ("  a   b  ", [(0, ("a", "b"))]), ("\na\n\nb\n", [(1, ("a",)), (3, ("b",))]),
                ("a # b # c\nd", [(0, ("a",)), (1, ("d",))]), ("a#b\n#c\nd #", [(0, ("a",)), (2, ("d",))]),
                ("a\n   \nb", [(0, ("a",)), (2, ("b",))]), ("a b # c\n\n  d", [(0, ("a", "b")), (2, ("d",))]),
                ("+ 1 -1;~ a,b", [(0, ("+", "1", "-1;~", "a,b"))]), ("a a\na a", [(0, ("a", "a")), (1, ("a", "a"))])]:
            self.assertEqual(self.new(lines_of, text), lines, text)

    def test_blanks_alone_part_words(self):
        self.assertEqual(lines_of("a\tb \x0bc"), [(0, ("a\tb", "\x0bc"))])
        self.assertEqual(lines_of("a\rb\x0c\x1cc\n\u2028d\x85e\u00a0"), [(0, ("a\rb\x0c\x1cc",)), (1, ("\u2028d\x85e\u00a0",))])

    def test_long(self):
        text = "\n".join(["a " * 200] * 3)
        self.assertEqual([(line, len(words)) for line, words in lines_of(text)], [(0, 200), (1, 200), (2, 200)])


if __name__ == "__main__":
    unittest.main()
