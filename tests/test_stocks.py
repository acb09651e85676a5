"""Promises [1], [3] and [4]: names and stocks."""

import unittest

from fallsunder.errors import BadName, BadStock, Twice, Unknown
from fallsunder.stocks import RESERVED, Stock, is_name
from tests.samples import small_stock, wide_stock

FORMS = [("coat", 1, 2, ["mix"])]


class StockTest(unittest.TestCase):
    def fails(self, kind, told, *passed):
        with self.assertRaises(kind) as caught:
            Stock(*passed)
        self.assertEqual(list(vars(caught.exception).values()), [told])

    def test_names(self):
        for name in ("a", "abcdefghijkl", "z", "stuffs", "takes"):
            self.assertTrue(is_name(name))
        for thing in ("", "abcdefghijklm", "A", "a1", "a b", "\u00e4", "a\n", None, 1, ["a"], b"a", *RESERVED):
            self.assertFalse(is_name(thing))
        self.assertEqual(RESERVED, ("any", "none", "mix", "form", "state", "over", "from", "parts", "some", "each",
                                    "main", "falls", "not", "and", "or", "two", "ring", "open"))

    def test_attributes(self):
        stock = Stock(["a", "b"], ("c",), ["d"], [["e", 1, 4, ["mix", "e"]], ("f", 2, 2, ("e",))])
        self.assertEqual((stock.stuffs, stock.states, stock.lands), (("a", "b"), ("c",), ("d",)))
        self.assertEqual(stock.forms, (("e", 1, 4, ("mix", "e")), ("f", 2, 2, ("e",))))
        self.assertEqual(list(stock), ["a", "b", "c", "d", "e", "f"])
        self.assertEqual(stock["f"], (2, 2, ("e",)))
        self.assertTrue("a" in stock and "f" in stock and "mix" not in stock and ["a"] not in stock and 1 not in stock)
        for name in ("a", "mix", "x", 0, None, ["e"]):
            with self.assertRaises(Unknown) as caught:
                stock[name]
            self.assertEqual(caught.exception.name, name)

    def test_what_is_passed_is_copied(self):
        stuffs, takes = ["a"], ["mix"]
        forms = [["e", 1, 1, takes]]
        stock = Stock(stuffs, ["c"], ["d"], forms)
        stuffs.append("b")
        takes.append("e")
        forms.append(["g", 1, 1, ["mix"]])
        forms[0][0] = "h"
        self.assertEqual((stock.stuffs, stock.forms), (("a",), (("e", 1, 1, ("mix",)),)))
        self.assertEqual(stock["e"], (1, 1, ("mix",)))

    def test_equal(self):
        self.assertTrue(small_stock() == small_stock())
        self.assertFalse(small_stock() == wide_stock())
        self.assertFalse(Stock(["a", "b"], ["c"], ["d"], FORMS) == Stock(["b", "a"], ["c"], ["d"], FORMS))
        base = [["a", "b"], ["c"], ["d"], FORMS]
        for k, part in enumerate((["a"], ["e"], ["e"], [("coat", 1, 1, ["mix"])])):
            self.assertFalse(Stock(*base) == Stock(*base[:k], part, *base[k + 1:]))
        self.assertFalse(small_stock() == "x" or small_stock() == None)  # noqa: E711

    def test_counts(self):
        five = ["a", "b", "c", "d", "e"]
        Stock(five, ["f", "g", "h", "i"], ["j", "k", "l", "m"], [(n, 1, 4, ["mix"]) for n in "nopqrs"])
        for wrong in ([], [*five, "x"], "abc", None, {"a": 1}):
            self.fails(BadStock, "stuffs", wrong, [], [], [])
        for wrong in ([], ["f", "g", "h", "i", "k"], "f"):
            self.fails(BadStock, "states", ["a"], wrong, [], [])
            self.fails(BadStock, "lands", ["a"], ["b"], wrong, [])
        for wrong in ([], [(n, 1, 4, ["mix"]) for n in "nopqrst"], None):
            self.fails(BadStock, "forms", ["a"], ["b"], ["c"], wrong)

    def test_rows_of_forms(self):
        for row in (("e", 1, 2), ("e", 1, 2, ["mix"], 1), ("e", 0, 2, ["mix"]), ("e", 3, 2, ["mix"]),
                    ("e", 1, 5, ["mix"]), ("e", True, 2, ["mix"]), ("e", 1, True, ["mix"]), ("e", 1, 2, []),
                    ("e", 1, 2, "mix"), ("e", "1", 2, ["mix"]), "abcd", None, ("e", 1, 2, None)):
            with self.subTest(row=row):
                self.fails(BadStock, "forms", ["1"], ["b"], ["b"], [("c", 1, 1, ["mix"]), row])

    def test_names_ahead_of_twice(self):
        self.fails(BadName, "1", ["a", "a"], ["b"], ["c"], [("1", 1, 1, ["x"])])
        self.fails(BadName, "mix", ["mix"], ["any"], ["c"], FORMS)
        self.fails(BadName, None, ["a"], [None], ["c"], FORMS)
        self.fails(Twice, "a", ["a"], ["b", "a"], ["b"], [("coat", 1, 1, ["x"])])
        self.fails(Twice, "coat", ["a"], ["b"], ["c"], [("coat", 1, 1, ["x"]), ("coat", 1, 1, ["mix"])])

    def test_takes(self):
        self.fails(Unknown, "a", ["a"], ["b"], ["c"], [("e", 1, 1, ["mix", "a", "mix"])])
        self.fails(Twice, "mix", ["a"], ["b"], ["c"], [("e", 1, 1, ["mix", "mix", "a"])])
        self.fails(Twice, "e", ["a"], ["b"], ["c"], [("e", 1, 1, ["e", "e"]), ("f", 1, 1, ["x"])])
        self.fails(Unknown, None, ["a"], ["b"], ["c"], [("e", 1, 1, [None])])

    def test_usable(self):
        self.assertEqual(wide_stock().usable(), ("coat", "button"))
        stock = Stock(["a"], ["b"], ["c"], [("e", 1, 1, ["f"]), ("f", 1, 1, ["e", "g"]), ("g", 1, 1, ["mix"]),
                                            ("h", 1, 1, ["h", "i"]), ("i", 2, 2, ["h"])])
        self.assertEqual(stock.usable(), ("e", "f", "g"))


if __name__ == "__main__":
    unittest.main()
