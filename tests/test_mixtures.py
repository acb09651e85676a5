"""Promises [1] and [11]: mixture rows and lightest mixes."""

import itertools
import math
import unittest

from fallsunder.errors import BadRow, Unknown
from fallsunder.mixtures import mixture_rows
from fallsunder.stocks import Stock
from fallsunder.terms import Term
from tests.samples import fixed_random, holds

STOCK = Stock(["b", "c", "a"], ["s"], ["far", "here"], [("f", 1, 1, ["mix"])])


def share(word, stuff, top, bottom):
    return Term((word, stuff, top, bottom))


def brute(stock, plains, most):
    """The rows that mixes of up to so many grams give, each with its least weight."""
    found = {}
    for row in itertools.product(range(most + 1), repeat=len(stock.stuffs)):
        pairs = tuple(sorted((s, g) for s, g in zip(stock.stuffs, row) if g))
        if pairs and sum(row) <= most:
            truths = tuple(holds(plain, ("mix", "far", pairs)) for plain in plains)
            found[truths] = min(found.get(truths, most), sum(row))
    return found


class MixtureTest(unittest.TestCase):
    def rows(self, *shares):
        out = mixture_rows(STOCK, list(shares))
        for truths, good in out:
            self.assertEqual(tuple(term(good) for term in shares), truths)
            self.assertEqual((good.root, good.land), ("mix", "far"))
        self.assertEqual([row[0] for row in out], sorted(row[0] for row in out))
        return [(truths, good.weight) for truths, good in out]

    def test_no_share(self):
        self.assertEqual(self.rows(), [((), 1)])
        self.assertIsInstance(mixture_rows(STOCK, ()), tuple)

    def test_bounds(self):
        self.assertEqual(self.rows(share("over", "a", 0, 1)), [((False,), 1), ((True,), 1)])
        self.assertEqual(self.rows(share("from", "a", 0, 1)), [((True,), 1)])
        self.assertEqual(self.rows(share("over", "a", 1, 1)), [((False,), 1)])
        self.assertEqual(self.rows(share("from", "a", 1, 1)), [((False,), 1), ((True,), 1)])
        self.assertEqual(self.rows(share("over", "a", 1, 2), share("from", "a", 1, 2)),
                         [((False, False), 1), ((False, True), 2), ((True, True), 1)])

    def test_a_share_twice(self):
        half = share("over", "a", 1, 2)
        self.assertEqual(self.rows(half, half), [((False, False), 1), ((True, True), 1)])

    def test_shares_that_exclude_each_other(self):
        self.assertEqual(self.rows(share("over", "a", 1, 2), share("from", "b", 1, 2)),
                         [((False, False), 1), ((False, True), 1), ((True, False), 1)])
        self.assertEqual(self.rows(share("from", "a", 1, 2), share("from", "b", 1, 2)),
                         [((False, False), 1), ((False, True), 1), ((True, False), 1), ((True, True), 2)])
        rows = dict(self.rows(*[share("from", stuff, 1, 3) for stuff in "abc"]))
        self.assertEqual(rows[(True, True, True)], 3)
        self.assertNotIn((False,) * 3, dict(self.rows(*[share("from", stuff, 1, 3) for stuff in "abc"])))

    def test_lightest(self):
        rows = dict(self.rows(share("over", "a", 18, 19), share("over", "a", 19, 20)))
        self.assertEqual(rows, {(False, False): 1, (True, False): 20, (True, True): 1})
        rows = dict(self.rows(share("over", "a", 18, 19), share("from", "a", 19, 20)))
        self.assertEqual(rows[(True, False)], 39)
        points = [share(word, stuff, 1, q) for stuff, q in (("a", 19), ("b", 17)) for word in ("over", "from")]
        self.assertEqual(dict(self.rows(*points))[(False, True, False, True)], 19 * 17)

    def test_random_shares(self):
        rng = fixed_random(6)
        for _ in range(60):
            plains = []
            for _ in range(rng.randint(0, 6)):
                bottom = rng.randint(1, 5)
                top = rng.randint(0, bottom)
                by = math.gcd(top, bottom)
                plains.append((rng.choice(["over", "from"]), rng.choice(STOCK.stuffs), top // by, bottom // by))
            rows = dict(self.rows(*[Term(plain) for plain in plains]))
            least = brute(STOCK, plains, 12)
            for truths, weight in least.items():
                self.assertEqual(rows[truths], weight, plains)
            self.assertEqual({t for t, w in rows.items() if w <= 12}, set(least))

    def test_hard_shares(self):
        stock = Stock(list("abcde"), ["s"], ["l"], [("f", 1, 1, ["mix"])])
        shares = [Term(("over", stuff, top, bottom))
                  for stuff, top, bottom in (("a", 1, 20), ("b", 3, 19), ("c", 5, 17), ("d", 2, 13), ("e", 3, 11))]
        rows = mixture_rows(stock, shares)
        self.assertTrue(all(rows[-1][0]))
        self.assertEqual(len(rows), 31)
        for truths, good in rows:
            self.assertEqual(tuple(term(good) for term in shares), truths)

    def test_errors(self):
        good, bad, other = share("over", "a", 1, 2), Term(("mix",)), share("over", "zinc", 1, 2)
        for shares, number in (([bad], 0), ([good, bad, bad], 1), ([other, good, bad], 2), ([("over", "a", 1, 2)], 0),
                               ([~good], 0)):
            with self.assertRaises(BadRow) as caught:
                mixture_rows(STOCK, shares)
            self.assertEqual(caught.exception.number, number)
        with self.assertRaises(Unknown) as caught:
            mixture_rows(STOCK, (good, other, share("from", "tin", 1, 2)))
        self.assertEqual(caught.exception.name, "zinc")
        with self.assertRaises(Unknown):
            mixture_rows(STOCK, [share("over", "far", 1, 2)])


if __name__ == "__main__":
    unittest.main()
