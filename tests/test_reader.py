import itertools
import unittest

from figurewheel.errors import NoText
from figurewheel.reader import read_statement
from figurewheel.statements import Both, Either, Every, No, PlaceIs, SignIs, SignsLike, Some, Statement, Sums
from tests.grammar import RESERVED, drawn_tree, refused_at, tree_of
from tests.making import drawing, refusal_of

EACH_RULE = [
    ("A n is 0", SignIs("A", "n", 0)), ("Z n is 9", SignIs("Z", "n", 9)),
    ("A n like B m", SignsLike("A", "n", "B", "m")), ("A n like A n", SignsLike("A", "n", "A", "n")),
    ("n = m", Sums(["n"], ["m"], "=")), ("n < m", Sums(["n"], ["m"], "<")),
    ("a + b = c", Sums(["a", "b"], ["c"], "=")), ("a + b + c < d", Sums(["a", "b", "c"], ["d"], "<")),
    ("a = b + c", Sums(["a"], ["b", "c"], "=")), ("a < b + c + d", Sums(["a"], ["b", "c", "d"], "<")),
    ("a + b + c = d + e + f", Sums(["a", "b", "c"], ["d", "e", "f"], "=")), ("a + a < a + a", Sums(["a", "a"], ["a", "a"], "<")),
    ("n = 0", PlaceIs("n", 0)), ("n = 7", PlaceIs("n", 7)), ("n = 10", PlaceIs("n", 10)),
    ("n = 999999999", PlaceIs("n", 999999999)), ("n = 100000000", PlaceIs("n", 100000000)),
    ("not n = m", No(Sums(["n"], ["m"], "="))), ("not not n = 1", No(No(PlaceIs("n", 1)))),
    ("( n = 1 and m = 2 )", Both(PlaceIs("n", 1), PlaceIs("m", 2))),
    ("( n = 1 or m = 2 )", Either(PlaceIs("n", 1), PlaceIs("m", 2))),
    ("( a + b = c and d < e + f )", Both(Sums(["a", "b"], ["c"], "="), Sums(["d"], ["e", "f"], "<"))),
    ("some n n = 1", Some("n", PlaceIs("n", 1))), ("all n n = 1", Every("n", PlaceIs("n", 1))),
    ("all n ( A n is 0 or some m n + n = m )",
     Every("n", Either(SignIs("A", "n", 0), Some("m", Sums(["n", "n"], ["m"], "="))))),
    ("not ( not n = 1 and some m all k n < m )",
     No(Both(No(PlaceIs("n", 1)), Some("m", Every("k", Sums(["n"], ["m"], "<")))))),
]

VOCABULARY = [
    "A", "Z", "n", "m", "abcdef", "is", "like", "=", "<", "+", "0", "5", "9", "12", "00", "01", "999999999", "1234567890",
    "not", "(", ")", "and", "or", "some", "all", "", "AB", "abcdefg", "n1", "-1", "N", "==", "((", "nN", "+1", "a+b",
]


class Reader(unittest.TestCase):
    def refused(self, text, at):
        with self.subTest(text=text):
            # Both, the plain count and the rules read all at once, tell the same.
            self.assertEqual(refused_at(text), at)
            error = refusal_of(read_statement, text)
            self.assertIsInstance(error, NoText)
            self.assertEqual(error.at, at)

    def taken(self, text):
        with self.subTest(text=text):
            self.assertIsNone(refused_at(text))
            statement = read_statement(text)
            self.assertIsInstance(statement, Statement)
            self.assertEqual(statement.text(), text)
            return statement

    def assert_told(self, text):
        """Reads a text, whatever it is, and asks for what the rules tell."""
        at = refused_at(text)
        if at is None:
            self.taken(text)
        else:
            self.refused(text, at)
        return at


class Rules(Reader):
    def test_each_rule(self):
        for text, statement in EACH_RULE:
            self.assertEqual(tree_of(self.taken(text)), tree_of(statement))

    def test_kinds_of_fields(self):
        self.assertIs(type(read_statement("A n is 4").sign), int)
        self.assertIs(type(read_statement("n = 4").place), int)
        self.assertIs(type(read_statement("n = m").left), list)

    def test_drawn_trees_are_read_again(self):
        draw = drawing(131)
        for index in range(300):
            deep = draw.randrange(1, 9)
            statement = drawn_tree(draw, ["n", "m", "abcdef", "q"], ["A", "Z"], deep, ["n", "x"])
            self.assertEqual(tree_of(self.taken(statement.text())), tree_of(statement))

    def test_what_is_read_is_new_each_time(self):
        first = read_statement("a + b = c")
        first.left.append("q")
        self.assertEqual(read_statement("a + b = c").left, ["a", "b"])


class Words(Reader):
    def test_names(self):
        for name in ["a", "z", "abcdef", "zzzzzz", "isa", "ors", "nots", "alls", "an", "liken", "sum"]:
            self.taken(f"A {name} is 1")
            self.taken(f"{name} = {name} + {name}")
            self.taken(f"some {name} {name} = 1")
        for word in RESERVED + ["abcdefg", "A", "aB", "n1", "1", "", "n_", "n+m", "-", "Ab"]:
            self.refused(f"A {word} is 1", 1)
            self.refused(f"A n like B {word}", 4)
            self.refused(f"n + {word} = m", 2)
            self.refused(f"n < {word}", 2)
            self.refused(f"n + m = {word}", 4)
            self.refused(f"some {word} n = 1", 1)
            self.refused(f"all {word} n = 1", 1)

    def test_rows(self):
        for letter in "ABCDEFGHIJKLMNOPQRSTUVWXYZ":
            self.taken(f"{letter} n is 1")
            self.taken(f"A n like {letter} n")
        for word in ["AB", "A1", "@", "[", "1", "-"]:
            self.refused(f"{word} n is 1", 0)
        for word in ["a", "AB", "", "5", "is"]:
            self.refused(f"A n like {word} n", 3)

    def test_figures(self):
        for figure in range(10):
            self.assertEqual(self.taken(f"A n is {figure}").sign, figure)
        for word in ["10", "00", "01", "", "a", "-1", "A", "+", "0x"]:
            self.refused(f"A n is {word}", 3)

    def test_numbers(self):
        for number in [0, 1, 9, 10, 99, 123456789, 999999999, 100000000]:
            self.assertEqual(self.taken(f"n = {number}").place, number)
        for word in ["00", "01", "000000000", "012345678", "1000000000", "1234567890", "0123456789", "-1", "+1", "1a", "1_0", "",
                     "1.0"]:
            self.refused(f"n = {word}", 2)
            self.refused(f"( n = {word} and n = 1 )", 3)

    def test_a_number_behind_one_name_and_behind_two(self):
        self.taken("n = 5")
        self.refused("n + m = 5", 4)
        self.refused("n + m + k = 0", 6)
        self.refused("n < 5", 2)
        self.refused("n + m < 5", 4)
        self.refused("5 = n", 0)
        self.refused("n = 5 + m", 3)
        self.refused("n = m + 5", 4)

    def test_sides(self):
        self.refused("a + b + c + d = e", 5)
        self.refused("a = b + c + d + e", 7)
        self.refused("( a = b + c + d + e and n = 1 )", 8)
        self.refused("a + = b", 2)
        self.refused("a = b = c", 3)
        self.refused("a < b < c", 3)
        self.refused("a b", 1)
        self.refused("a is 1", 1)
        self.refused("= a", 0)

    def test_brackets_and_joins(self):
        self.refused("( n = 1 )", 4)
        self.refused("( n = 1 and m = 2 or k = 3 )", 8)
        self.refused("n = 1 and m = 2", 3)
        self.refused("( n = 1 not m = 2 )", 4)
        self.refused("( n = 1 , m = 2 )", 4)
        self.refused("n = 1 )", 3)
        self.refused("( n = 1 and m = 2 ) )", 9)
        self.refused("( ( n = 1 and m = 2 )", 10)
        self.refused(")", 0)
        self.refused("( )", 1)
        self.refused("and", 0)
        self.refused("(n = 1 and m = 2 )", 0)

    def test_blanks(self):
        self.refused("", 0)
        self.refused(" ", 0)
        self.refused("  ", 0)
        self.refused(" n = 1", 0)
        self.refused("n = 1 ", 3)
        self.refused("n  = 1", 1)
        self.refused("n =  1", 2)
        self.refused("( n = 1  and m = 2 )", 4)
        self.refused("not ", 1)
        self.refused("n = m ", 3)
        self.refused("n = m + ", 4)


class Ends(Reader):
    def test_a_text_that_ends_too_early_at_each_place(self):
        for text, statement in EACH_RULE:
            words = text.split(" ")
            for many in range(1, len(words)):
                at = self.assert_told(" ".join(words[:many]))
                # What is cut off too early tells how many words there are, but where it is a statement already.
                self.assertIn(at, (many, None))

    def test_told_ends(self):
        for text in ["A", "A n", "A n is", "A n like", "A n like B", "n", "n +", "n + m", "n =", "n <", "n = m +", "not", "(",
                     "( n = 1", "( n = 1 and", "( n = 1 and m = 2", "some", "some n", "all", "all n", "not not"]:
            self.refused(text, len(text.split(" ")))

    def test_each_word_at_each_place(self):
        told = set()
        for text, statement in EACH_RULE:
            words = text.split(" ")
            for at in range(len(words) + 1):
                for word in VOCABULARY:
                    told.add(self.assert_told(" ".join(words[:at] + [word] + words[at:])))
                    told.add(self.assert_told(" ".join(words[:at] + [word] + words[at + 1:])))
        self.assertTrue(told >= set(range(12)))

    def test_all_texts_of_few_words(self):
        vocabulary = ["A", "n", "is", "like", "=", "<", "+", "1", "not", "(", ")", "and", "some", ""]
        for many in range(1, 4):
            for words in itertools.product(vocabulary, repeat=many):
                self.assert_told(" ".join(words))

    def test_drawn_texts(self):
        draw = drawing(132)
        for index in range(1500):
            statement = drawn_tree(draw, ["n", "m"], ["A", "Z"], draw.randrange(2, 7), ["n"])
            words = statement.text().split(" ")
            for change in range(draw.randrange(1, 3)):
                at = draw.randrange(len(words))
                words[at:at + draw.randrange(3)] = draw.sample(VOCABULARY, draw.randrange(3))
                words = words or [""]
            self.assert_told(" ".join(words))


class Depths(Reader):
    def test_eight_and_nine_deep(self):
        for head in [["not"], ["some", "n"], ["all", "n"]]:
            self.taken(" ".join(head * 7 + ["n", "=", "1"]))
            # What begins a statement eight deep can stand, what would begin one within it cannot.
            self.refused(" ".join(head * 8 + ["n", "=", "1"]), 8 * len(head))
            self.refused(" ".join(head * 9 + ["n", "=", "1"]), 8 * len(head))
            self.refused(" ".join(head * 8), 8 * len(head))
            self.refused(" ".join(head * 8 + [""]), 8 * len(head))

    def test_a_name_behind_some_eight_deep(self):
        for word in ["some", "all"]:
            self.refused(" ".join(["not"] * 7 + [word]), 8)
            self.refused(" ".join(["not"] * 7 + [word, "A"]), 8)
            self.refused(" ".join(["not"] * 7 + [word, "n"]), 9)
            self.refused(" ".join(["not"] * 7 + [word, "n", "n", "=", "1"]), 9)

    def test_brackets(self):
        def nested(many):
            text = "n = 1"
            for index in range(many):
                text = f"( {text} and m = 2 )"
            return text

        def nested_behind(many):
            text = "n = 1"
            for index in range(many):
                text = f"( m = 2 or {text} )"
            return text

        self.taken(nested(7))
        self.taken(nested_behind(7))
        self.refused(nested(8), 8)
        self.refused(nested(9), 8)
        self.refused(nested_behind(8), 7 * 5 + 1)
        self.refused(" ".join(["("] * 8), 8)

    def test_each_kind_eight_deep(self):
        for text, statement in EACH_RULE[:17]:
            self.taken(" ".join(["not"] * 7 + [text]))
            self.refused(" ".join(["not"] * 8 + [text]), 8)
            self.taken(" ".join(["("] + ["not"] * 6 + [text, "and"] + ["not"] * 6 + [text, ")"]))
            many = len(text.split(" "))
            self.refused(" ".join(["("] + ["not"] * 6 + [text, "and"] + ["not"] * 7 + [text, ")"]), 1 + 6 + many + 1 + 7)

    def test_mixed(self):
        draw = drawing(133)
        for index in range(200):
            heads = [draw.choice([["not"], ["some", "n"], ["all", "m"], ["("]]) for deep in range(draw.randrange(6, 10))]
            words = [word for head in heads for word in head] + ["A", "n", "is", "1"]
            for head in reversed(heads):
                if head == ["("]:
                    words += ["or", "n", "<", "m", ")"]
            at = self.assert_told(" ".join(words))
            self.assertEqual(at is None, len(heads) < 8)

    def test_a_wrong_word_ahead_of_the_depth(self):
        self.refused(" ".join(["not"] * 5 + ["?"] + ["not"] * 5), 5)


if __name__ == "__main__":
    unittest.main()
