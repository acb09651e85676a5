"""Promise [44]: rates of duty, and prices of joining and finishing."""

import unittest

from fallsunder.booktext import read_book
from fallsunder.goodtext import read_good
from fallsunder.rates import Rates
from fallsunder.ratios import Ratio
from tests.samples import caught, small_stock, wide_stock

STOCK = small_stock()
BOOK = read_book(STOCK, "heading 1 is mix\nheading 2 is parts 1\nheading 2a under 2 is form coat\nrules first")
ROWS = [("1", Ratio(1, 2)), ("2a", Ratio(3)), ("none", Ratio(0)), ("two", Ratio(5, 7)), ("ring", Ratio(9))]
JOINS = [("coat", Ratio(1, 3)), ("button", Ratio(0))]


def rates(**more):
    return Rates(BOOK, ROWS, joining=JOINS, **more)


class RatesTest(unittest.TestCase):
    def test_what_is_asked(self):
        one = rates()
        self.assertEqual(one.book, BOOK)
        self.assertEqual([one[name] for name, _ in ROWS], [price for _, price in ROWS])
        self.assertEqual([one.join_price(name) for name in ("coat", "button")], [Ratio(1, 3), Ratio(0)])
        self.assertIsNone(one.finishing)
        self.assertEqual(rates(finishing=Ratio(0)).finishing, Ratio(0))
        self.assertEqual(one.duty(read_good(STOCK, "mix far 3 hair")), Ratio(3, 2))
        self.assertEqual(one.duty(read_good(STOCK, "coat worn far (mix far 3 hair 1 wool)")), 12)
        self.assertEqual(one.duty(read_good(STOCK, "button worn far (mix far 3 hair 1 wool)")), Ratio(0))
        self.assertEqual(one.duty(read_good(STOCK, "mix far 3 hair") * 10 ** 50), Ratio(3 * 10 ** 50, 2))

    def test_lists_and_copies(self):
        rows, joins = [list(row) for row in ROWS][::-1], tuple(tuple(row) for row in JOINS[::-1])
        one = Rates(BOOK, rows, joining=joins)
        self.assertEqual(one, rates())
        rows[0][1] = Ratio(77)
        rows.pop()
        self.assertEqual((one, one["ring"]), (rates(), Ratio(9)))

    def test_what_is_not_there(self):
        one = rates()
        for name in ("2", "3", "", None, 1, True, ("1",), ["1"]):
            self.assertEqual(caught(lambda: one[name]), ("NoRow", name))
        for name in ("mix", "x", "", None, ("coat",), ["coat"]):
            self.assertEqual(caught(lambda: one.join_price(name)), ("Unknown", name))
        self.assertEqual(caught(lambda: one.duty(read_good(wide_stock(), "mix far 1 hair"))), ("OtherStock", 1))

    def test_bad_rates(self):
        bad_prices = [Ratio(-1, 2), 1, True, "1", None, 0]
        bad_rows = [ROWS[1:], ROWS[:-1], ROWS + [ROWS[0]], ROWS + [("2", Ratio(1))], ROWS[1:] + [("2", Ratio(1))],
                    ROWS[1:] + [ROWS[1]], "rows", None, {"1": Ratio(1)}, ROWS[1:] + [("1",)], ROWS[1:] + ["1"],
                    ROWS[1:] + [("1", Ratio(1), 1)], ROWS[1:] + [(1, Ratio(1))], ROWS[1:] + [(None, Ratio(1))], []]
        bad_rows += [ROWS[1:] + [("1", price)] for price in bad_prices]
        bad_joins = [[], JOINS[1:], JOINS + [JOINS[0]], JOINS + [("mix", Ratio(1))], [JOINS[0], ("x", Ratio(1))],
                     JOINS + [("1", Ratio(1))], None, Ratio(1), [JOINS[0], ("button",)]]
        bad_joins += [[JOINS[0], ("button", price)] for price in bad_prices]
        for rows in bad_rows:
            self.assertEqual(caught(lambda: Rates(BOOK, rows, joining=[], finishing=1)), ("BadRates", "rows"), rows)
            self.assertEqual(caught(lambda: Rates(BOOK, rows, joining=JOINS)), ("BadRates", "rows"), rows)
        for joins in bad_joins:
            self.assertEqual(caught(lambda: Rates(BOOK, ROWS, joining=joins, finishing=1)), ("BadRates", "joining"), joins)
            self.assertEqual(caught(lambda: Rates(BOOK, ROWS, joining=joins)), ("BadRates", "joining"), joins)
        for price in bad_prices:
            if price is not None:
                self.assertEqual(caught(lambda: rates(finishing=price)), ("BadRates", "finishing"))

    def test_finishing_is_set(self):
        one = rates()
        one.finishing = Ratio(1, 4)
        self.assertEqual(one.finishing, Ratio(1, 4))
        self.assertIsNone(one.refinish(Ratio(2)))
        self.assertEqual(one.finishing, Ratio(2))
        self.assertFalse(one == rates())
        for price in (Ratio(-1), 0, 1, True, "x", 1.5):
            with self.assertRaises(ValueError):
                one.finishing = price
            self.assertEqual(caught(lambda: one.refinish(price)), ("BadRates", "finishing"))
            self.assertEqual(caught(lambda: setattr(one, "finishing", price)), ("BadRates", "finishing"))
            self.assertEqual(one.finishing, Ratio(2))
        one.refinish(None)
        self.assertEqual(one, rates())

    def test_with_joining(self):
        one = rates(finishing=Ratio(2))
        other = one.with_joining(Ratio(5, 2))
        self.assertEqual([other.join_price(name) for name in ("coat", "button")], [Ratio(5, 2)] * 2)
        self.assertIsNone(other.finishing)
        self.assertEqual((one.finishing, one.join_price("coat")), (Ratio(2), Ratio(1, 3)))
        self.assertEqual([other[name] for name, _ in ROWS], [price for _, price in ROWS])
        for price in (None, 1, 0, True, Ratio(-1, 9), "1"):
            self.assertEqual(caught(lambda: one.with_joining(price)), ("BadRates", "joining"))

    def test_equality(self):
        one = rates(finishing=Ratio(2))
        self.assertEqual(one, rates(finishing=Ratio(4, 2)))
        others = [rates(), rates(finishing=Ratio(3)), Rates(BOOK, ROWS, joining=[JOINS[0], ("button", Ratio(1))],
                                                           finishing=Ratio(2)),
                  Rates(BOOK, [("1", Ratio(1, 3)), *ROWS[1:]], joining=JOINS, finishing=Ratio(2)),
                  Rates(BOOK.changed(rules=["last"]), ROWS, joining=JOINS, finishing=Ratio(2)), ROWS, None]
        for other in others:
            self.assertFalse(one == other)
        self.assertFalse(rates() == one)


if __name__ == "__main__":
    unittest.main()
