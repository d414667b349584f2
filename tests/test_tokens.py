import random
import unittest

from turnsame.tokens import text_of, tokens_of

CASES = [
    # the empty text, and gaps alone
    ("", [], ""),
    (" ", [], " "),
    ("\n \n", [], "\n \n"),
    (";", [], ";"),
    ("; a remark (with words)", [], "; a remark (with words)"),
    ("; a remark\n", [], "; a remark\n"),
    # words and gaps
    ("a", [("", "a")], ""),
    (" a", [(" ", "a")], ""),
    ("a ", [("", "a")], " "),
    ("a b", [("", "a"), (" ", "b")], ""),
    ("a  \n b\n", [("", "a"), ("  \n ", "b")], "\n"),
    ("!~#\"'[]{}@A9_-", [("", "!~#\"'[]{}@A9_-")], ""),
    ("qrs abcdefghijklmnopqrstuvwxyz", [("", "qrs"), (" ", "abcdefghijklmnopqrstuvwxyz")], ""),
    # brackets are words of their own
    ("()", [("", "("), ("", ")")], ""),
    ("(a)", [("", "("), ("", "a"), ("", ")")], ""),
    ("a(b)c", [("", "a"), ("", "("), ("", "b"), ("", ")"), ("", "c")], ""),
    ("((", [("", "("), ("", "(")], ""),
    ("))", [("", ")"), ("", ")")], ""),
    # remarks at the beginning, between words, and at the end
    ("; one\na", [("; one\n", "a")], ""),
    (";\na", [(";\n", "a")], ""),
    ("a ; one\nb", [("", "a"), (" ; one\n", "b")], ""),
    ("a;one\nb", [("", "a"), (";one\n", "b")], ""),
    ("a;", [("", "a")], ";"),
    ("a;b", [("", "a")], ";b"),
    ("(;)\n)", [("", "("), (";)\n", ")")], ""),
    ("a ; one", [("", "a")], " ; one"),
    ("a ; one\n", [("", "a")], " ; one\n"),
    ("a ; one ; still\n ; two\n\n;three", [("", "a")], " ; one ; still\n ; two\n\n;three"),
    (";a\n;b\n c;d\n;e\n(", [(";a\n;b\n ", "c"), (";d\n;e\n", "(")], ""),
]


class Tokens(unittest.TestCase):
    def test_cases(self):
        for text, tokens, tail in CASES:
            self.assertEqual(tokens_of(text), (tokens, tail), text)

    def test_kinds(self):
        told = tokens_of("(a b) ; c")
        self.assertIs(type(told), tuple)
        self.assertIs(type(told[0]), list)
        for token in told[0]:
            self.assertIs(type(token), tuple)

    def test_all_in_order_is_the_text(self):
        chance = random.Random(10)
        texts = [text for text, _, _ in CASES]
        for _ in range(500):
            texts.append("".join(chance.choice("ab1 \n;()-") for _ in range(chance.randrange(30))))
        for text in texts:
            tokens, tail = tokens_of(text)
            self.assertEqual(text_of(tokens, tail), text)
            self.assertEqual("".join(gap + word for gap, word in tokens) + tail, text)

    def test_words_are_as_long_as_can_be(self):
        chance = random.Random(11)
        for _ in range(500):
            text = "".join(chance.choice("ab \n;()") for _ in range(chance.randrange(30)))
            tokens, _ = tokens_of(text)
            for (_, word), (gap, behind) in zip(tokens, tokens[1:]):
                self.assertFalse(gap == "" and word not in "()" and behind not in "()")

    def test_told_otherwise_they_are_laid_one_behind_the_other(self):
        self.assertEqual(text_of([], ""), "")
        self.assertEqual(text_of([], " tail"), " tail")
        self.assertEqual(text_of([("", "a"), ("", "b")], ""), "ab")
        self.assertEqual(text_of([("gap", "two words"), ("", "(x"), (";", "")], "\n"), "gaptwo words(x;\n")

    def test_told_is_the_askers_own(self):
        tokens, _ = tokens_of("(a b)")
        tokens.append(("", "more"))
        tokens[0] = ("", "other")
        self.assertEqual(tokens_of("(a b)"), ([("", "("), ("", "a"), (" ", "b"), ("", ")")], ""))

    def test_handed_in_stays(self):
        tokens = [("", "a"), (" ", "b")]
        text_of(tokens, "")
        self.assertEqual(tokens, [("", "a"), (" ", "b")])

    def test_long_text(self):
        text = "(a ;b\n" * 3300
        tokens, tail = tokens_of(text)
        self.assertEqual((len(tokens), tail), (6600, " ;b\n"))


if __name__ == "__main__":
    unittest.main()
