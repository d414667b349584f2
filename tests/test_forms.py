import unittest

from turnsame.forms import NO_BOUND, fits_count, is_head, shape_of, sort_of

# The NAMEs ahead of the expressions, then how many expressions at least and at most.
WRITTEN = {
    "let": (1, 2, 2), "var": (1, 2, 2), "set": (1, 1, 1), "do": (0, 1, NO_BOUND), "if": (0, 3, 3),
    "while": (0, 2, 2), "each": (1, 2, 2), "say": (0, 1, 1), "fault": (1, 0, 0),
    "add": (0, 2, 2), "sub": (0, 2, 2), "mul": (0, 2, 2), "div": (0, 2, 2), "less": (0, 2, 2),
    "same": (0, 2, 2), "at": (0, 2, 2), "not": (0, 1, 1), "size": (0, 1, 1), "row": (0, 0, 8),
    "new": (1, 0, NO_BOUND), "get": (2, 1, 1), "fun": (0, 1, 1), "apply": (0, 1, NO_BOUND),
}


class Forms(unittest.TestCase):
    def test_heads(self):
        for word in ("function", "deep", "open"):
            self.assertIs(is_head(word), True)
        for word in ("record", "let", "f", "", "(", ")", "heads"):
            self.assertIs(is_head(word), False)

    def test_sorts(self):
        for word in WRITTEN:
            self.assertEqual(sort_of(word), word)
        for word in ("f", "call", "op", "abcdefgh"):
            self.assertEqual(sort_of(word), "call")
        for word in ("record", "function", "deep", "open", "", "(", ")", "1", "-1", "F", "abcdefghi"):
            self.assertIsNone(sort_of(word))

    def test_shapes(self):
        for word, shape in WRITTEN.items():
            self.assertEqual(shape_of(word), shape)
        self.assertEqual(shape_of("call"), (1, 0, NO_BOUND))

    def test_counts(self):
        self.assertEqual([fits_count(many, 2, 2) for many in range(5)], [False, False, True, False, False])
        self.assertEqual([fits_count(many, 0, 8) for many in (0, 8, 9)], [True, True, False])
        self.assertEqual([fits_count(many, 1, NO_BOUND) for many in (0, 1, 900)], [False, True, True])


if __name__ == "__main__":
    unittest.main()
