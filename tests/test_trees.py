import unittest

from turnsame.errors import NoTree
from turnsame.trees import tree_of


class Trees(unittest.TestCase):
    def refused(self, words):
        with self.assertRaises(NoTree) as caught:
            tree_of(words)
        return caught.exception.at

    def test_no_words(self):
        self.assertEqual(tree_of([]), ())

    def test_words_without_brackets(self):
        self.assertEqual(tree_of(["a"]), ((0, "a"),))
        self.assertEqual(tree_of(["let", "12", "-"]), ((0, "let"), (1, "12"), (2, "-")))

    def test_brackets(self):
        self.assertEqual(tree_of(["(", ")"]), ((0, (), 1),))
        self.assertEqual(tree_of("( a )".split()), ((0, ((1, "a"),), 2),))
        self.assertEqual(tree_of("( ) ( )".split()), ((0, (), 1), (2, (), 3)))
        self.assertEqual(
            tree_of("a ( b ( c ) ( ) d ) e".split()),
            ((0, "a"), (1, ((2, "b"), (3, ((4, "c"),), 5), (6, (), 7), (8, "d")), 9), (10, "e")),
        )

    def test_kinds(self):
        told = tree_of("( a ( b ) )".split())
        self.assertIs(type(told), tuple)
        self.assertIs(type(told[0]), tuple)
        self.assertIs(type(told[0][1]), tuple)
        self.assertIs(type(told[0][1][1][1]), tuple)

    def test_many_within_one_another(self):
        for many in (2, 60, 500):
            nodes = tree_of(["("] * many + [")"] * many)
            for at in range(many):
                self.assertEqual(len(nodes), 1)
                self.assertEqual((nodes[0][0], nodes[0][2]), (at, 2 * many - 1 - at))
                nodes = nodes[0][1]
            self.assertEqual(nodes, ())

    def test_a_bracket_closes_that_was_not_opened(self):
        self.assertEqual(self.refused([")"]), 0)
        self.assertEqual(self.refused("a )".split()), 1)
        self.assertEqual(self.refused("( ) )".split()), 2)
        self.assertEqual(self.refused("( a ) ) ) (".split()), 3)
        self.assertEqual(self.refused(") (".split()), 0)

    def test_a_bracket_does_not_close(self):
        self.assertEqual(self.refused(["("]), 1)
        self.assertEqual(self.refused("( a b".split()), 3)
        self.assertEqual(self.refused("( ( )".split()), 3)
        self.assertEqual(self.refused("( ) (".split()), 3)
        self.assertEqual(self.refused(["("] * 1000), 1000)

    def test_handed_in_stays(self):
        words = "( a ( b ) )".split()
        told = tree_of(words)
        self.assertEqual(words, "( a ( b ) )".split())
        words[1] = "other"
        words.append(")")
        self.assertEqual(told, ((0, ((1, "a"), (2, ((3, "b"),), 4)), 5),))


if __name__ == "__main__":
    unittest.main()
