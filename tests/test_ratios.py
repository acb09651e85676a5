"""Promises [1] and [2]: ratios and their texts; the error classes."""

import unittest

from fallsunder import errors
from fallsunder.errors import BadRatio, FallsError
from fallsunder.ratios import Ratio

ARGUMENTS = {
    "BadRatio": ["thing"], "BadName": ["name"], "BadStock": ["part"], "Twice": ["name"], "Unknown": ["name"],
    "BadGood": ["place"], "NoPlace": ["place"], "BadNumber": ["number"], "OtherStock": ["number"],
    "BadTerm": ["place"], "BadWord": ["number"], "BadLine": ["line", "word"], "BareFalls": ["heading"],
    "BadBook": ["part"], "BadNote": ["number"], "BadRule": ["word"], "NoHeading": ["name"], "NoRow": ["row"],
    "BadRow": ["number"], "NoGood": ["known"], "OtherRoot": ["other"], "Undecided": ["first", "second"],
    "BadPlan": ["place"], "BadDeed": ["number"], "BadOpen": ["place"], "BadPrices": ["part"], "NoWay": ["heading"],
    "BadZone": ["number"], "BadRates": ["part"], "BadWay": ["place"], "BadDay": ["day"], "NoEdition": ["day"],
    "NoDeed": ["word"], "Forged": ["office", "number"],
}


class ErrorsTest(unittest.TestCase):
    def test_each_class_keeps_its_arguments(self):
        for name, words in ARGUMENTS.items():
            with self.subTest(name=name):
                kind = getattr(errors, name)
                self.assertEqual(kind.__bases__, (FallsError,))
                made = kind(*range(len(words)))
                self.assertEqual([getattr(made, word) for word in words], list(range(len(words))))
        self.assertEqual(FallsError.__bases__, (ValueError,))


class RatioTest(unittest.TestCase):
    def bad(self, thing, *passed):
        with self.assertRaises(BadRatio) as caught:
            Ratio(*passed)
        self.assertIs(caught.exception.thing, thing)

    def test_lowest_terms(self):
        for top, bottom, terms in [(2, 4, (1, 2)), (-2, 4, (-1, 2)), (2, -4, (-1, 2)), (-2, -4, (1, 2)),
                                   (0, -7, (0, 1)), (6, 3, (2, 1)), (10 ** 59, 10 ** 58, (10, 1))]:
            self.assertEqual((Ratio(top, bottom).top, Ratio(top, bottom).bottom), terms)
        self.assertEqual((Ratio(7).top, Ratio(7).bottom), (7, 1))

    def test_wrong_numbers(self):
        self.bad(True, True)
        self.bad(False, 1, False)
        self.bad("1", "1", 0)
        self.bad(None, 1, None)
        self.bad(0, 1, 0)
        self.bad(1.5, 1.5)
        self.bad(True, True, 0)

    def test_arithmetic(self):
        half, third = Ratio(1, 2), Ratio(1, 3)
        self.assertEqual([str(x) for x in (half + third, half - third, half * third, -half)],
                         ["5/6", "1/6", "1/6", "-1/2"])
        self.assertEqual([str(x) for x in (half + 1, 1 + half, half - 1, 1 - half, half * 3, 3 * half)],
                         ["3/2", "3/2", "-1/2", "1/2", "3/2", "3/2"])
        self.assertEqual((half.top, half.bottom), (1, 2))
        for wrong in (True, "1", None):
            with self.assertRaises(TypeError):
                half + wrong
            for call in (lambda: wrong * half, lambda: half * wrong, lambda: wrong + half, lambda: wrong - half,
                         lambda: half - wrong):
                with self.assertRaises(TypeError):
                    call()

    def test_equal(self):
        self.assertTrue(Ratio(2, 4) == Ratio(1, 2))
        self.assertTrue(Ratio(4, 2) == 2 and 2 == Ratio(4, 2))
        self.assertTrue(Ratio(1, 2) != Ratio(1, 3))
        for other in (True, "1", 1.0, None, (1, 1)):
            self.assertFalse(Ratio(1) == other)
        self.assertFalse(Ratio(1, 2) == 1)

    def test_order(self):
        self.assertTrue(Ratio(1, 3).less(Ratio(1, 2)) and Ratio(-1, 2).less(0) and not Ratio(1, 2).less(Ratio(2, 4)))
        self.assertTrue(Ratio(1, 2).at_most(Ratio(2, 4)) and Ratio(2).at_most(2) and not Ratio(5, 2).at_most(2))

    def test_floor_and_ceiling(self):
        rows = [(7, 2, 3, 4), (-7, 2, -4, -3), (4, 2, 2, 2), (-4, 2, -2, -2), (0, 5, 0, 0), (-1, 9, -1, 0)]
        for top, bottom, low, high in rows:
            self.assertEqual((Ratio(top, bottom).floor(), Ratio(top, bottom).ceiling()), (low, high))

    def test_texts(self):
        for text in ("0", "1", "-1", "3/4", "-3/4", "10/7", "1" * 60, "-" + "7" * 57 + "/2"):
            self.assertEqual(str(Ratio.of(text)), text)
        self.assertEqual((Ratio.of("-3/4").top, Ratio.of("-3/4").bottom), (-3, 4))

    def test_texts_of_none(self):
        wrong = ["", "-", "+1", "01", "-0", "1/1", "2/4", "0/2", "1/0", "1/-2", "--1", " 1", "1 ", "1/", "/2", "1/02",
                 "1/2/3", "1.5", "1_0", "\u0661", "\u00b2", "1\n", "a", "1" * 61, "-" + "1" * 60, None, 1, Ratio(1)]
        for text in wrong:
            with self.subTest(text=text), self.assertRaises(BadRatio) as caught:
                Ratio.of(text)
            self.assertIs(caught.exception.thing, text)


if __name__ == "__main__":
    unittest.main()
