"""[4]: words of a text, number words."""

import unittest

from movedchest.errors import BadText, Unfit
from movedchest.signs import number_of, text_of, word_of, words
from tests.drawn import Draw

SIGNS = [chr(code) for code in range(ord(" "), ord("~") + 1)]
WORD_SIGNS = "abcdefghijklmnopqrstuvwxyz0123456789-"


class Words(unittest.TestCase):
    def test_no_words(self):
        for text in ("", " ", "\n", "   \n\n  ", "#", "# a remark", "#\n # x\n#~!A"):
            self.assertEqual(words(text), [], text)

    def test_longest_runs_and_blanks(self):
        self.assertEqual(words("  a  b-1 "), [("a", 0), ("b-1", 0)])
        self.assertEqual(words("-"), [("-", 0)])
        self.assertEqual(words("a" * 5000), [("a" * 5000, 0)])

    def test_a_remark_ends_with_its_line(self):
        self.assertEqual(words("a#b c\nd #e#f\ng"), [("a", 0), ("d", 1), ("g", 2)])

    def test_lines_without_words_count(self):
        self.assertEqual(words("\n\na\n\n#x\nb\n"), [("a", 2), ("b", 5)])

    def test_each_sign(self):
        for sign in SIGNS:
            if sign in WORD_SIGNS:
                self.assertEqual(words("\n" + sign), [(sign, 1)])
            elif sign in " #":
                self.assertEqual(words("\n" + sign), [])
            else:
                for text in ("\n" + sign, "\na" + sign + "b", "\na " + sign, "\n" + sign + "#", "x\ny z" + sign):
                    with self.assertRaises(BadText) as caught:
                        words(text)
                    self.assertEqual(caught.exception.line, 1)
            self.assertEqual(words("a #" + sign + "\nb"), [("a", 0), ("b", 1)])

    def test_the_first_line_at_fault(self):
        for text, line in (("A\nB", 0), ("a\nb\n#!\nc !\nD", 3), ("\n\n.", 2), ("a # A\nb_c", 1)):
            with self.assertRaises(BadText) as caught:
                words(text)
            self.assertEqual(caught.exception.line, line)

    def test_tab_is_no_blank(self):
        with self.assertRaises(BadText) as caught:
            words("a\na\tb")
        self.assertEqual(caught.exception.line, 1)

    def test_each_list_is_new(self):
        words("a b").append("c")
        self.assertEqual(words("a b"), [("a", 0), ("b", 0)])


class TextOf(unittest.TestCase):
    def test_lines(self):
        self.assertEqual(text_of([]), "")
        self.assertEqual(text_of(()), "")
        self.assertEqual(text_of([("a", 0)]), "a\n")
        self.assertEqual(text_of([("a", 2), ("b", 2), ("-", 4)]), "\n\na b\n\n-\n")
        self.assertEqual(text_of([["a", 0], ["b", 1]]), "a\nb\n")
        self.assertEqual(text_of((("a", 0), ["b", 1])), "a\nb\n")

    def test_a_far_line(self):
        self.assertEqual(text_of([("a", 10 ** 6)]), "\n" * 10 ** 6 + "a\n")

    def test_what_are_no_words(self):
        for pairs in (
            None, True, 5, "a", "", {}, ("a", 0), [("a",)], [("a", 0, 0)], [("", 0)], [("A", 0)], [("a b", 0)],
            [("a", -1)], [("a", True)], [("a", None)], [("a", "0")], [("a", 1), ("b", 0)], [(0, "a")], ["a0"],
            [("a#", 0)], [("a\n", 0)], [(b"a", 0)], [(("a",), 0)], [[("a", 0)]], [("a", 0.0)],
        ):
            with self.assertRaises(Unfit, msg=pairs):
                text_of(pairs)

    def test_words_tells_what_text_of_took(self):
        draw = Draw(41)
        for _ in range(300):
            line, pairs = 0, []
            for _ in range(draw.chance.randint(0, 12)):
                line += draw.chance.choice((0, 0, 0, 1, 2, 3))
                pairs.append(("".join(draw.chance.choices(WORD_SIGNS, k=draw.chance.randint(1, 9))), line))
            text = text_of(pairs)
            self.assertEqual(words(text), pairs)
            self.assertEqual(text.count("\n"), pairs[-1][1] + 1 if pairs else 0)
            self.assertNotIn("  ", text)
            blanker = "  " + text.replace(" ", "    ").replace("\n", "  \n")
            self.assertEqual(words(blanker), pairs)
            self.assertEqual(words(text.replace("\n", " # Re mark!\n")), pairs)

    def test_a_line_break_between_two_words_puts_the_later_on(self):
        pairs = [("a", 0), ("b", 0), ("c", 1), ("d", 3)]
        text = text_of(pairs)
        for number in range(1, len(pairs)):
            at = text.index(pairs[number][0])
            later = [(word, line + 1) for word, line in pairs[number:]]
            self.assertEqual(words(text[:at] + "\n" + text[at:]), pairs[:number] + later)


class Numbers(unittest.TestCase):
    def test_number_words(self):
        for number in (0, 1, -1, 9, 10, -10, 120, 10 ** 11, 10 ** 12 - 1, 1 - 10 ** 12):
            self.assertEqual(number_of(str(number)), number)
            self.assertEqual(word_of(number), str(number))

    def test_figures(self):
        self.assertEqual(number_of("9" * 12), 10 ** 12 - 1)
        self.assertEqual(number_of("-" + "9" * 12), 1 - 10 ** 12)
        self.assertIsNone(number_of("1" * 13))
        self.assertIsNone(number_of("-" + "1" * 13))
        self.assertIsNone(number_of("9" * 6000))

    def test_no_number_words(self):
        for word in ("", "-", "--1", "1-", "-0", "00", "01", "-01", "+1", " 1", "1 ", "1\n", "a", "1a", "1.0", "1_0",
                     "0x1", "None", "\u0661", "\u00b2"):
            self.assertIsNone(number_of(word), word)

    def test_there_and_back(self):
        draw = Draw(42)
        for _ in range(300):
            number = draw.number(10 ** draw.chance.randint(0, 12) - 1)
            self.assertEqual(number_of(word_of(number)), number)
            self.assertEqual(words(word_of(number)), [(word_of(number), 0)])


if __name__ == "__main__":
    unittest.main()
