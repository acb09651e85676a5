"""Promises [1] and [12]: shapes, their order and their numbers."""

import itertools
import unittest

from fallsunder.errors import BadNumber, BadRow
from fallsunder.goods import Good
from fallsunder.shapes import count, good_of, is_shape, number_of, shape_at, shape_of, shapes
from fallsunder.stocks import Stock
from tests.samples import all_goods, fixed_random, plain_size, small_stock

STOCK = Stock(["b", "a"], ["z", "y"], ["l", "k"],
              [("q", 1, 3, ["mix", "p"]), ("p", 2, 2, ["mix", "q", "p"]), ("ghost", 1, 1, ["ghost"])])
WIDE = Stock(list("abcde"), list("fghi"), list("jklm"), [(n, 1, 4, ["mix", *"nopqrs"]) for n in "nopqrs"])


def bare(plain):
    if plain[0] == "mix":
        return ("mix", plain[1], tuple(stuff for stuff, _ in plain[2]))
    return (*plain[:3], tuple(bare(part) for part in plain[3]))


class Order:
    """All shapes of few nodes, sorted as the document tells."""

    def __init__(self, stock, nodes):
        self.stock = stock
        self.by_size = {}
        self.numbers = {}
        for plain in all_goods(stock, nodes, 1):
            self.by_size.setdefault(plain_size(plain), set()).add(bare(plain))
        for size in sorted(self.by_size):
            self.by_size[size] = sorted(self.by_size[size], key=self.key)
            self.numbers.update({shape: k for k, shape in enumerate(self.by_size[size])})

    def key(self, shape):
        stock = self.stock
        if shape[0] == "mix":
            return (stock.lands.index(shape[1]), sum(2 ** stock.stuffs.index(stuff) for stuff in shape[2]))
        return ([row[0] for row in stock.forms].index(shape[0]), stock.states.index(shape[1]),
                stock.lands.index(shape[2]), len(shape[3]), tuple(plain_size(part) for part in shape[3]),
                tuple(self.numbers[part] for part in shape[3]))


class ShapesTest(unittest.TestCase):
    def test_all_shapes_of_few_nodes(self):
        for stock, nodes in ((STOCK, 4), (small_stock(), 6)):
            order = Order(stock, nodes)
            for size, rows in order.by_size.items():
                self.assertEqual(list(shapes(stock, size)), rows)
                self.assertEqual(count(stock, size), len(rows))
                for number, shape in list(enumerate(rows))[::max(1, len(rows) // 200)]:
                    self.assertEqual(shape_at(stock, size, number), shape)
                    self.assertEqual(number_of(stock, shape), number)
                    self.assertTrue(is_shape(stock, shape))
                    self.assertEqual(shape_of(good_of(stock, shape)), shape)

    def test_mixes_and_first_things(self):
        self.assertEqual(list(shapes(STOCK, 1)), [("mix", "l", ("b",)), ("mix", "l", ("a",)), ("mix", "l", ("a", "b")),
                                                  ("mix", "k", ("b",)), ("mix", "k", ("a",)), ("mix", "k", ("a", "b"))])
        self.assertEqual(shape_at(STOCK, 2, 0), ("q", "z", "l", (("mix", "l", ("b",)),)))
        self.assertEqual(shape_at(STOCK, 2, 6), ("q", "z", "k", (("mix", "l", ("b",)),)))

    def test_counts_by_a_second_way(self):
        stock = Stock(["a"], ["s"], ["l"], [("f", 1, 4, ["mix", "f"])])
        ways = [0, 1]
        for size in range(2, 40):
            rows = [1] + [0] * (size - 1)
            total = 0
            for _ in range(4):
                rows = [sum(rows[k - j] * ways[j] for j in range(1, k + 1)) for k in range(size)]
                total += rows[size - 1]
            ways.append(total)
        self.assertEqual([count(stock, size) for size in range(1, 40)], ways[1:])

    def test_forms_without_a_good(self):
        stock = Stock(["a"], ["s"], ["l"], [("f", 1, 1, ["g"]), ("g", 1, 1, ["f"])])
        self.assertEqual([count(stock, size) for size in (1, 2, 3, 50)], [1, 0, 0, 0])
        self.assertEqual(list(shapes(stock, 2)), [])
        with self.assertRaises(BadNumber) as caught:
            shape_at(stock, 2, 0)
        self.assertEqual(caught.exception.number, 0)

    def test_two_hundred_nodes(self):
        many = count(WIDE, 200)
        self.assertEqual(many % (4 * 4), 0)
        rng = fixed_random(4)
        for number in [0, 1, many - 1, *[rng.randrange(many) for _ in range(10)]]:
            shape = shape_at(WIDE, 200, number)
            self.assertEqual(number_of(WIDE, shape), number)
            self.assertEqual(good_of(WIDE, shape).size, 200)
        with self.assertRaises(BadNumber):
            shape_at(WIDE, 200, many)
        self.assertEqual([number_of(WIDE, shape) for shape in itertools.islice(shapes(WIDE, 200), 5)], [0, 1, 2, 3, 4])
        chain = Stock(["a"], ["s"], ["l"], [("f", 1, 1, ["mix", "f"])])
        self.assertEqual([count(chain, 200), good_of(chain, shape_at(chain, 200, 0)).depth], [1, 200])

    def test_numbers_that_are_none(self):
        for nodes in (0, -1, True, "1", None, 1.0):
            for call in (lambda: count(STOCK, nodes), lambda: shape_at(STOCK, nodes, "x"),
                         lambda: list(shapes(STOCK, nodes))):
                with self.assertRaises(BadNumber) as caught:
                    call()
                self.assertIs(caught.exception.number, nodes)
        for number in (-1, 6, True, "0", None):
            with self.assertRaises(BadNumber) as caught:
                shape_at(STOCK, 1, number)
            self.assertIs(caught.exception.number, number)

    def test_a_generator_does_nothing_ahead(self):
        rows = shapes(STOCK, 0)
        with self.assertRaises(BadNumber):
            next(rows)

    def test_what_is_no_shape(self):
        mix = ("mix", "l", ("a",))
        for thing in (None, (), "mix", ("mix", "l", ()), ("mix", "l", ["a"]), ["mix", "l", ("a",)], ("mix", "x", ("a",)),
                      ("mix", "l", ("b", "a")), ("mix", "l", ("a", "a")), ("mix", "l", ("c",)), ("mix", "l", (("a", 1),)),
                      ("mix", "l", ("a",), 1), ("q", "z", "l", [mix]), ("q", "z", "l", ()), ("q", "z", "l", (mix,) * 4),
                      ("q", "x", "l", (mix,)), ("q", "z", "x", (mix,)), ("r", "z", "l", (mix,)), ("ghost", "z", "l", (mix,)),
                      ("p", "z", "l", (mix, ["mix", "l", ("a",)])), ("q", "z", "l", (("q", "z", "l", (mix,)),)),
                      Good(STOCK, ("mix", "l", (("a", 1),)))):
            with self.subTest(thing=thing):
                self.assertFalse(is_shape(STOCK, thing))
                for call in (number_of, good_of):
                    with self.assertRaises(BadRow) as caught:
                        call(STOCK, thing)
                    self.assertEqual(caught.exception.number, 0)
        self.assertTrue(is_shape(STOCK, ("p", "z", "l", (mix, ("q", "z", "l", (mix,))))))

    def test_goods_of_shapes(self):
        good = Good(STOCK, ("q", "y", "k", (("mix", "l", (("a", 5), ("b", 7))),)))
        self.assertEqual(shape_of(good), ("q", "y", "k", (("mix", "l", ("a", "b")),)))
        self.assertEqual(good_of(STOCK, shape_of(good)).plain, ("q", "y", "k", (("mix", "l", (("a", 1), ("b", 1))),)))


if __name__ == "__main__":
    unittest.main()
