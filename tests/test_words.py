"""[39]: which words are numbers, which are names."""

import unittest

from sumnets.words import is_name, is_number, is_signed_number

NUMBERS = ("0", "1", "9", "10", "64", "1063", "100000000", "123456789", "999999999")
# The last ones are digits to Python, but not to the document.
NO_NUMBER_WORDS = (
    "", " ", "00", "01", "007", "000000000", "1234567890", "1000000000", "0123456789", "+1", "+0", "1.0", "1e3", "0x1",
    "1_0", "1 ", " 1", "1 2", "a", "x", "1x", "x1", "1a", "a1", "-", "--1", "1-", "-a", "1\n", "\n1", "1\t", "1\r",
    "1,000", "\u0661", "1\u0661", "\u00b2", "\uff11", "9" * 4301, "9" * 20000)


class Words(unittest.TestCase):
    def test_numbers(self):
        for word in NUMBERS:
            self.assertIs(is_number(word), True)
            self.assertIs(is_signed_number(word), True)
        for word in NO_NUMBER_WORDS + ("-1", "-0", "-10"):
            self.assertIs(is_number(word), False)

    def test_numbers_with_a_sign_ahead(self):
        for word in ("-1", "-9", "-10", "-999999999", "-100000000"):
            self.assertIs(is_signed_number(word), True)
        for word in NO_NUMBER_WORDS + ("-0", "-01", "-00", "-1234567890", "--1", "+-1", "- 1", "-\u0661"):
            self.assertIs(is_signed_number(word), False)

    def test_names(self):
        for word in ("a", "z", "ab", "abcdefgh", "zzzzzzzz", "rule", "names", "net"):
            self.assertIs(is_name(word), True)
        for word in ("", "abcdefghi", "A", "aB", "a1", "1", "a-b", "a_b", "a.", " a", "a ", "a\n", "-", "~", "\u00e9",
                     "\u00df", "a" * 20000):
            self.assertIs(is_name(word), False)


if __name__ == "__main__":
    unittest.main()
