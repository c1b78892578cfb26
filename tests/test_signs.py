import random
import unittest

from holefloors import signs
from holefloors.errors import BadText, Unfit
from holefloors.signs import number_of, text_of, word_of, words
from tests.support import NEVER, check_calls, run_examples

EXAMPLES = r'''
    >>> words("yard -1 0 # a remark\n2 07-")
    [('yard', 0), ('-1', 0), ('0', 0), ('2', 1), ('07-', 1)]
    >>> text_of([("row", 0), ("0", 0), ("plan", 2)]), words("row 0\n\nplan")
    ('row 0\n\nplan\n', [('row', 0), ('0', 0), ('plan', 2)])
    >>> number_of("07"), number_of("120"), number_of("-0"), number_of("-12"), word_of(-7), words("")
    (None, 120, None, -12, '-7', [])
    >>> words("row a\nB")
    raises BadText(line=1)
    >>> words("a.b")
    raises BadText(line=0)
'''
LETTERS = "abcdefghijklmnopqrstuvwxyz0123456789-"


def told_words(chance):
    """WORDS by chance."""
    line, found = 0, []
    for _ in range(chance.randrange(9)):
        line += chance.choice((0, 0, 1, 3))
        found.append(("".join(chance.choice(LETTERS) for _ in range(chance.randrange(1, 9))), line))
    return found


class SignsTest(unittest.TestCase):
    def test_examples(self):
        run_examples(self, EXAMPLES, vars(signs))

    def test_nothing_but_words_parted(self):
        self.assertEqual(words(" \n# all of it is a remark\n  \n"), [])
        self.assertEqual(words("\n\n a  b\n"), [("a", 2), ("b", 2)])
        self.assertEqual(words("a#b c\nd # e # f\n#g\nh"), [("a", 0), ("d", 1), ("h", 3)])
        self.assertEqual(words("-"), [("-", 0)])
        self.assertEqual(words("#"), [])
        self.assertEqual(words("abc-9" * 500), [("abc-9" * 500, 0)])

    def test_each_sign(self):
        for code in range(32, 127):
            sign = chr(code)
            told = f"x\ny{sign}z\n!"
            if sign in LETTERS:
                self.assertEqual(words(told[:-1]), [("x", 0), (f"y{sign}z", 1)])
            elif sign == " ":
                self.assertEqual(words(told[:-1]), [("x", 0), ("y", 1), ("z", 1)])
            elif sign == "#":
                self.assertEqual(words(told[:-1]), [("x", 0), ("y", 1)])
            else:
                with self.assertRaises(BadText) as caught:
                    words(told)
                self.assertEqual(caught.exception.line, 1)
            with self.assertRaises(BadText) as caught:
                words("a #" + sign + "\n\n!\n?")
            self.assertEqual(caught.exception.line, 2)

    def test_text_of(self):
        self.assertEqual(text_of([]), "")
        self.assertEqual(text_of([("a", 3)]), "\n\n\na\n")
        self.assertEqual(text_of([("a", 0), ("b", 0), ("a", 1), ("b", 1)]), "a b\na b\n")
        self.assertEqual(len(text_of([("a", 1000000)])), 1000002)

    def test_there_and_back(self):
        chance = random.Random(4)
        for _ in range(300):
            told = told_words(chance)
            text = text_of(told)
            self.assertEqual(words(text), told)
            self.assertEqual(words(text.replace(" ", "   ")), told)
            self.assertEqual(words(text.replace("\n", "  # End, of (a) line!\n")), told)
            self.assertEqual(words("\n" + text), [(word, line + 1) for word, line in told])
            for at in range(len(text)):
                if text[at] == " ":
                    parted = words(text[:at] + "\n" + text[at:])
                    ahead = len(words(text[:at]))
                    later = [(word, line + 1) for word, line in told[ahead:]]
                    self.assertEqual(parted, told[:ahead] + later)

    def test_number_words(self):
        for word, number in (
            ("0", 0), ("1", 1), ("-1", -1), ("10", 10), ("999999999999", 999999999999),
            ("-999999999999", -999999999999), ("100000000000", 10 ** 11),
        ):
            self.assertEqual(number_of(word), number)
            self.assertEqual(word_of(number), word)
        for word in (
            "", "-", "--1", "1-", "-0", "00", "07", "-07", "+1", "1a", "a", "1 ", " 1", "1_0", "1\n", "0x1",
            "1000000000000", "-1000000000000", "0000000000001", "\u0661", "\u00b2",
        ):
            self.assertIsNone(number_of(word), word)
        for number in list(range(-120, 121)) + [10 ** 12 - 1, 1 - 10 ** 12]:
            self.assertEqual(number_of(word_of(number)), number)

    def test_unfit_words(self):
        bad = list(NEVER) + [
            [("a", 0, 0)], [("a",)], ["a0"], [("a", True)], [("a", -1)], [("a", "0")], [("a", None)], [("A", 0)],
            [("", 0)], [("a b", 0)], [("a#", 0)], [("a\n", 0)], [(5, 0)], [(None, 0)], [("a", 1), ("b", 0)],
            [("a", 0), ("b", 2), ("c", 1)], {"a": 0}, [["\u00e4", 0]], [("a", 1.0)],
        ]
        for value in bad:
            with self.assertRaises(Unfit, msg=value):
                text_of(value)

    def test_forms(self):
        check_calls(self, words, ("text",), ("a b\nc # d",))
        check_calls(self, words, ("text",), ("a\n.",))
        check_calls(self, text_of, ("words",), ([("a", 0), ("b", 0), ("c", 4)],))
        check_calls(self, number_of, ("word",), ("12",))
        check_calls(self, word_of, ("number",), (12,))
        self.assertEqual(repr(words("a b")), "[('a', 0), ('b', 0)]")


if __name__ == "__main__":
    unittest.main()
