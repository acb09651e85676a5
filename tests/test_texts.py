"""Promises [1], [8] and [9]: the texts of terms, goods and stocks."""

import unittest

from fallsunder.errors import BadGood, BadLine, BadName, BadStock, BadWord, FallsError, Twice, Unknown
from fallsunder.goods import Good
from fallsunder.goodtext import read_good, read_stock, words, write_good, write_stock
from fallsunder.terms import Term
from fallsunder.termtext import read_term, write_term
from tests.samples import all_goods, fixed_random, random_term, small_stock, wide_stock

STOCK = wide_stock()
A, M = ("any",), ("mix",)


class TextTest(unittest.TestCase):
    def bad(self, number, call, *passed):
        with self.subTest(passed=passed), self.assertRaises(BadWord) as caught:
            call(*passed)
        self.assertEqual(caught.exception.number, number)


class TermTextTest(TextTest):
    def test_parentheses_where_they_are_needed(self):
        rows = [(("some", ("and", ("form", "blade"), ("over", "iron", 1, 2))), "some (form blade and over 1/2 iron)"),
                (("or", ("or", A, M), A), "any or mix or any"), (("or", A, ("or", M, A)), "any or (mix or any)"),
                (("and", ("and", A, M), A), "any and mix and any"), (("and", A, ("and", M, A)), "any and (mix and any)"),
                (("or", ("and", A, M), ("and", M, A)), "any and mix or mix and any"),
                (("and", ("or", A, M), ("or", M, A)), "(any or mix) and (mix or any)"),
                (("not", ("not", A)), "not not any"), (("not", ("or", A, M)), "not (any or mix)"),
                (("and", ("some", A), ("main", ("each", M))), "some any and main each mix"),
                (("some", ("main", ("and", A, M))), "some main (any and mix)"), (("over", "iron", 0, 1), "over 0/1 iron"),
                (("from", "iron", 1, 1), "from 1/1 iron"), (("parts", 3), "parts 3"), (("falls", "12a"), "falls 12a"),
                (("or", A, ("and", M, ("not", ("or", A, M)))), "any or mix and not (any or mix)")]
        for plain, text in rows:
            self.assertEqual(write_term(Term(plain)), text)
            self.assertEqual(read_term(text), Term(plain))

    def test_there_and_back(self):
        rng = fixed_random(3)
        for _ in range(300):
            plain = random_term(STOCK, rng, 6, ("1a", "b"), True)
            self.assertEqual(read_term(write_term(Term(plain))).plain, plain)

    def test_more_parentheses(self):
        for text in ("((any))", "(((any) or (mix)))", "(any or mix)", "((any) or mix)", "(any ) or (mix)", "( any or mix)",
                     "( any or mix )", "( ( any) or mix)"):
            plain = A if "or" not in text else ("or", A, M)
            with self.subTest(text=text):
                self.assertEqual(read_term(text).plain, plain)
        self.assertEqual(read_term("not (some (mix)) and any").plain, ("and", ("not", ("some", M)), A))
        self.assertEqual(read_term("(" * 3000 + "any" + ")" * 3000).plain, A)

    def test_first_bad_word(self):
        rows = [("", 0), (" any", 0), ("any ", 1), ("any\n", 0), ("\nany", 0), ("any  or mix", 1), ("any or", 2),
                ("any or  mix", 2), ("not", 1), ("some some", 2), ("any any", 1), ("any)", 1), ("(any", 2), ("(any))", 3),
                ("()", 1), ("form", 1), ("form mix", 1), ("form a)", 2), ("form A", 1), ("form abcdefghijklm", 1),
                ("over 2/4 a", 1), ("over 1 a", 1), ("over 1/2", 2), ("over 01/2 a", 1), ("over 1/02 a", 1),
                ("over 1/21 a", 1), ("over 3/2 a", 1), ("over 0/2 a", 1), ("over 1/1 1", 2), ("over 1/2/3 a", 1),
                ("over 0/0 a", 1), ("over /1 a", 1), ("from 1/ a", 1), ("over -1/2 a", 1), ("parts 0", 1),
                ("parts 5", 1), ("parts 01", 1), ("parts", 1), ("falls main", 1), ("falls abcdefghi", 1), ("falls 1,", 1),
                ("any and or", 2), ("and any", 0), ("(any or mix", 4), ("some (any", 3), ("any or (mix) any", 5),
                ("any(", 0), ("an", 0), ("any or )", 2), ("not ) any", 1), ("((any)", 4), ("any, any", 0),
                ("over 1/2 a,", 2), ("any or (and", 3)]
        for text, number in rows:
            self.bad(number, read_term, text)


class GoodTextTest(TextTest):
    def test_the_example(self):
        plain = ("coat", "worn", "far", (("mix", "far", (("hair", 3), ("wool", 2))),
                                         ("button", "whole", "here", (("mix", "here", (("horn", 1),)),))))
        text = "coat worn far (mix far 3 hair 2 wool, button whole here (mix here 1 horn))"
        self.assertEqual(write_good(Good(STOCK, plain)), text)
        self.assertEqual(read_good(STOCK, text).plain, plain)

    def test_there_and_back(self):
        for plain in all_goods(small_stock(), 4):
            good = Good(small_stock(), plain)
            self.assertEqual(read_good(small_stock(), write_good(good)), good)
        deep = ("mix", "far", (("wool", 10 ** 299),))
        for _ in range(1500):
            deep = ("coat", "worn", "far", (deep, deep)[:1])
        self.assertEqual(read_good(STOCK, write_good(Good(STOCK, deep))), Good(STOCK, deep))

    def test_parts_within_parts(self):
        text = ("coat worn far (coat whole here (mix far 1 wool, button worn far (mix far 2 hair, mix here 1 horn), "
                "mix far 3 wool), mix far 4 wool, coat worn far (mix here 5 horn, mix here 6 horn))")
        good = read_good(STOCK, text)
        self.assertEqual(write_good(good), text)
        self.assertEqual([good[place].many for place in ((), (0,), (0, 1), (2,))], [3, 3, 2, 2])
        self.assertEqual((good.size, good[(0, 1, 1)].plain), (11, ("mix", "here", (("horn", 1),))))

    def test_words(self):
        self.assertEqual(words("a (b, c))"), ("a", "(", "b", ",", "c", ")", ")"))
        self.assertEqual(words(""), ("",))
        self.assertEqual(words(" a  b "), ("", "a", "", "b", ""))
        self.assertEqual(words("((a(b),),"), ("(", "(", "a(b", ")", ",", ")", ","))
        self.assertEqual(words("() (, )("), ("(", ")", "(", ",", ")("))

    def test_first_bad_word(self):
        rows = [("", 0), ("mix", 1), ("mix far", 2), ("mix far 3", 3), ("mix far 3 wool 2", 5), ("mix far wool", 2),
                ("mix far 03 wool", 2), ("mix far 0 wool", 2), ("mix far -1 wool", 2), ("mix far 1 wool wool", 4),
                ("mix far 1 mix", 3), ("mix far 1 wool,", 4), ("mix far 1 wool)", 4), ("(mix far 1 wool)", 0),
                ("mix far 1 wool ", 4), (" mix far 1 wool", 0), ("mix far 1 wool\n", 3), ("\nmix far 1 wool", 0),
                ("mix far " + "1" * 301 + " wool", 2), ("coat", 1), ("coat worn far", 3), ("coat worn far (", 4),
                ("coat worn far ()", 4), ("coat worn far mix", 3), ("coat worn far (mix far 1 wool", 8),
                ("coat worn far (mix far 1 wool, ", 9), ("coat worn far (mix far 1 wool,,", 9),
                ("coat worn far (mix far 1 wool) far", 9), ("coat worn far (mix far 1 wool))", 9),
                ("coat worn far ((mix far 1 wool))", 4), ("coat 1 far (mix far 1 wool)", 1), ("form a b (", 0),
                ("coat worn far (mix far 1 wool, any", 9), ("mix far  1 wool", 2), ("mix far 1_0 wool", 2),
                ("mix far \u0661 wool", 2)]
        for text, number in rows:
            self.bad(number, read_good, STOCK, text)
        self.assertEqual(read_good(STOCK, "mix far " + "9" * 300 + " wool").weight, 10 ** 300 - 1)

    def test_rules_of_goods_come_behind(self):
        rows = [("mix far 1 wool 1 hair", ()), ("mix near 1 wool", ()), ("hat worn far (mix far 1 wool)", ()),
                ("coat worn far (mix far 1 wool, mix far 1 wool, mix far 1 wool, mix far 1 wool)", ()),
                ("coat worn far (mix far 1 wood)", (0,)), ("button worn far (button worn far (mix far 1 wool))", (0,))]
        for text, place in rows:
            with self.subTest(text=text), self.assertRaises(BadGood) as caught:
                read_good(STOCK, text)
            self.assertEqual(caught.exception.place, place)
        self.bad(5, read_good, STOCK, "mix near 1 wood 1")


class StockTextTest(unittest.TestCase):
    GOOD = "stuffs a b\nstates c\nlands d e\nform f 1 2 mix f\nform g 3 4 f"

    def test_there_and_back(self):
        for stock in (small_stock(), wide_stock(), read_stock(self.GOOD)):
            self.assertEqual(read_stock(write_stock(stock)), stock)
        self.assertEqual(write_stock(read_stock(self.GOOD)), self.GOOD)

    def test_bad_lines(self):
        rows = [("", 0, 0), ("stuffs", 0, 1), ("stuffs ", 0, 1), ("stuffs a", 1, 0), ("stuff a", 0, 0),
                ("stuffs a b c d e f", 0, 6), ("stuffs a\nstates b\nlands c", 3, 0), ("stuffs mix", 0, 1),
                ("stuffs a\nstates b c d e f\nx", 1, 5), ("stuffs a\nstates b\nlands c\n", 3, 0),
                ("stuffs a\nlands b", 1, 0), ("stuffs  a", 0, 1), (" stuffs a", 0, 0),
                (self.GOOD + "\n", 5, 0), (self.GOOD.replace("g 3", "g 5"), 4, 2), (self.GOOD.replace("g 3", "g 03"), 4, 2),
                (self.GOOD.replace("g 3 4 f", "g 3 4"), 4, 4), (self.GOOD.replace("g 3 4 f", "g 3 4 "), 4, 4),
                (self.GOOD.replace("f 1 2 mix f", "f 1 2"), 3, 4), (self.GOOD.replace("f 1 2 mix f", "f 0 2"), 3, 2),
                ("stuffs a\nstates b\nlands c d e f g", 2, 5), ("stuffs a\nstates b\nlands", 2, 1),
                (self.GOOD.replace("g 3 4 f", "g"), 4, 2), (self.GOOD + " a b c d e e h", 4, 11),
                (self.GOOD.replace("form f", "form any"), 3, 1), (self.GOOD.replace("mix f", "any f"), 3, 4),
                (self.GOOD + "\nform h 1 1 mix" * 5, 9, 0), ("stuffs a\r\nstates b", 0, 1),
                ("stuffs a\nstates 1\nlands", 1, 1), (self.GOOD.replace("form g", "forms g"), 4, 0)]
        for text, line, word in rows:
            with self.subTest(text=text), self.assertRaises(BadLine) as caught:
                read_stock(text)
            self.assertEqual((caught.exception.line, caught.exception.word), (line, word))

    def test_rules_of_stocks_come_behind(self):
        rows = [(self.GOOD.replace("g 3 4", "g 4 3"), BadStock, "forms"), (self.GOOD.replace("lands d", "lands a"), Twice, "a"),
                (self.GOOD + " x", Unknown, "x"), (self.GOOD + " f", Twice, "f")]
        for text, kind, told in rows:
            with self.subTest(text=text), self.assertRaises(kind) as caught:
                read_stock(text)
            self.assertEqual(list(vars(caught.exception).values()), [told])
        with self.assertRaises(BadLine):
            read_stock(self.GOOD.replace("g 3 4", "g 4 3") + "\nx")
        self.assertTrue(issubclass(BadName, FallsError))


if __name__ == "__main__":
    unittest.main()
