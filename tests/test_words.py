import unittest

from turnsame.words import is_count_word, is_name, is_number, number_of

NO_NAMES = (
    "record function deep open let var set do if while each say fault add sub mul div less same at not size "
    "row new get fun apply"
).split()


class Names(unittest.TestCase):
    def test_names(self):
        for word in ("a", "z", "ab", "abcdefgh", "zzzzzzzz", "call", "name", "number", "op", "letx", "lets", "recor"):
            self.assertIs(is_name(word), True, word)

    def test_lengths(self):
        self.assertIs(is_name("a" * 8), True)
        self.assertIs(is_name("a" * 9), False)
        self.assertIs(is_name(""), False)
        self.assertIs(is_name("a" * 20000), False)

    def test_kept_words(self):
        self.assertEqual(len(NO_NAMES), 27)
        for word in NO_NAMES:
            self.assertIs(is_name(word), False, word)

    def test_other_signs(self):
        for word in ("A", "aB", "Let", "a1", "1a", "1", "a-b", "-a", "a_b", "a.b", " a", "a ", "a\n", "\n", " ",
                     "(", ")", "a(", "a;", "a`", "{a", "~", "!", "@"):
            self.assertIs(is_name(word), False, word)


class Numbers(unittest.TestCase):
    def test_all_within_bounds(self):
        for number in range(-32768, 32768):
            self.assertIs(is_number(str(number)), True)
            self.assertEqual(number_of(str(number)), number)
            self.assertIs(type(number_of(str(number))), int)

    def test_beyond(self):
        for word in ("32768", "-32769", "65536", "99999", "-99999", "100000", "1" * 40, "-" + "1" * 40, "9" * 20000):
            self.assertIs(is_number(word), False)

    def test_noughts_ahead(self):
        for word in ("-0", "00", "01", "-01", "-00", "000", "0000000001", "00000", "-00001"):
            self.assertIs(is_number(word), False, word)

    def test_signs(self):
        for word in ("", "-", "--", "--1", "+1", "+", "1-", "1-1", "-1-", "- 1", " 1", "1 ", "1\n", "1_0", "1.0",
                     "1,0", "1a", "a", "0x1", "1e3", "(1", "1/1", "1:"):
            self.assertIs(is_number(word), False, word)


class Counts(unittest.TestCase):
    def test_counts(self):
        for word in ("0", "1", "9", "10", "100", "32768", "9" * 40, "1" + "0" * 40):
            self.assertIs(is_count_word(word), True, word)

    def test_others(self):
        for word in ("", "00", "01", "-1", "-0", "+1", "-", " 1", "1 ", "1\n", "1.0", "1_0", "a", "0a", "a0", "0x1"):
            self.assertIs(is_count_word(word), False, word)


if __name__ == "__main__":
    unittest.main()
