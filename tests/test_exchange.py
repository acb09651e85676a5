"""Promises [25] and [26]: frames, exchangeable goods, full sets."""

import itertools
import unittest
from math import lcm

from fallsunder.books import Book
from fallsunder.booktext import read_book
from fallsunder.exchange import Frame, exchangeable, full_set, is_frame
from fallsunder.goods import Good
from fallsunder.goodtext import read_good
from fallsunder.stocks import Stock
from tests.samples import book_from, caught, fixed_random, goods_of, is_sound, small_stock, twin_stock, wide_stock

STOCK = small_stock()
WIDE = wide_stock()


def good(text, stock=STOCK):
    return read_good(stock, text)


def small_layers(stock, pool):
    """All things with some goods of a pool beside a hole: (form, state, others, main, takes, size)."""
    out = []
    for form, least, most, takes in stock.forms:
        fit = [one for one in pool if one.root in takes]
        for state, many in itertools.product(stock.states, range(least, most + 1)):
            for others in itertools.product(fit, repeat=many - 1):
                size = 1 + sum(one.size for one in others)
                out.extend((form, state, others, main, takes, size) for main in range(many))
    return out


def around(stock, part, layer):
    """The layer around a good, the part with the layer's number made the main one by its weight."""
    form, state, others, main, _, _ = layer
    row = [part, *others]
    row[main] = row[main] * max(1, -(-(max(one.weight for one in row) + 1) // row[main].weight))
    return Good(stock, (form, state, stock.lands[0], tuple(one.plain for one in row)))


def slow_least(book, first, second, layers, limit):
    """The least size of a frame with two results, among the frames of these layers, None if there is none."""
    weight = lcm(first.weight, second.weight)
    todo = [(0, first * (weight // first.weight), second * (weight // second.weight))]
    sizes = []
    while todo:
        size, one, other = todo.pop()
        if book(one) != book(other):
            sizes.append(size)
        for layer in layers:
            if one.root in layer[4] and size + layer[5] <= limit:
                todo.append((size + layer[5], around(book.stock, one, layer), around(book.stock, other, layer)))
    return min(sizes, default=None)


class FrameTest(unittest.TestCase):
    def test_attributes(self):
        part = good("mix far 1 hair")
        whole = good("coat worn far (mix far 2 wool, button worn far (mix far 3 hair))")
        frame = Frame(whole, whole, (1,))
        self.assertEqual((frame.first, frame.second, frame.place, frame.around()), (whole, whole, (1,), 2))
        self.assertEqual(Frame(part, part, ()).around(), 0)
        self.assertEqual(Frame(whole, whole, (1, 0)).around(), 3)
        self.assertEqual(frame, Frame(whole * 1, whole, (1,)))
        for other in (Frame(whole, whole, (0,)), Frame(whole * 2, whole, (1,)), Frame(whole, whole * 2, (1,)), (whole, whole, (1,))):
            self.assertFalse(frame == other)

    def test_is_frame(self):
        one, other = good("mix far 1 hair"), good("mix far 3 wool")
        frame = Frame(good("coat worn far (mix far 6 hair, mix far 1 wool)"), good("coat worn far (mix far 6 wool, mix far 1 wool)"), (0,))
        self.assertTrue(is_frame(frame, one, other))
        self.assertTrue(is_frame(frame, one * 3, other * 2))
        self.assertFalse(is_frame(frame, one * 4, other))
        self.assertFalse(is_frame(frame, one, other * 4))
        self.assertFalse(is_frame(frame, other, one))
        self.assertFalse(is_frame(Frame(frame.first, frame.second, (1,)), one, other))
        self.assertFalse(is_frame(Frame(frame.first, frame.second, ()), one, other))
        self.assertTrue(is_frame(Frame(one * 3, other, ()), one, other))
        self.assertFalse(is_frame(Frame(one * 4, other, ()), one, other))
        self.assertTrue(is_frame(Frame(frame.first, frame.second, ()), frame.first, frame.second))

    def test_places_and_grams_around(self):
        one, other = good("mix far 1 hair"), good("mix far 1 wool")
        for first, second, place in [("coat worn far (mix far 1 hair, mix far 2 wool)", "coat worn far (mix far 1 wool, mix far 1 wool)", (0,)),
                                     ("coat worn far (mix far 1 hair)", "coat whole far (mix far 1 wool)", (0,)),
                                     ("coat worn far (mix far 1 hair)", "coat worn far (mix far 1 wool, mix far 1 wool)", (0,)),
                                     ("coat worn far (mix far 1 hair)", "mix far 1 wool", (0,)),
                                     ("coat worn far (mix far 1 hair)", "coat worn far (mix far 1 wool)", (1,)),
                                     ("coat worn far (mix far 1 hair)", "coat worn far (mix far 1 wool)", (0, 0)),
                                     ("coat worn far (mix far 1 hair)", "coat worn far (mix far 1 wool)", (True,)),
                                     ("coat worn far (mix far 2 hair)", "coat worn far (mix far 1 wool)", (0,))]:
            self.assertFalse(is_frame(Frame(good(first), good(second), place), one, other), (first, second, place))
        whole = Frame(good("coat worn far (mix far 1 hair)"), good("coat worn far (button worn far (mix far 1 hair))"), (0,))
        self.assertFalse(is_frame(whole, one, good("button worn far (mix far 1 hair)")))
        self.assertFalse(is_frame(Frame(one, good("button worn far (mix far 1 hair)"), ()), one, good("button worn far (mix far 1 hair)")))
        self.assertFalse(is_frame(Frame(good("coat worn far (mix far 1 hair)"), good("coat worn far (mix far 1 hair, mix far 1 wool)"), (1,)), one, other))
        self.assertFalse(is_frame(Frame(one, good("coat worn far (mix far 1 wool)"), (0,)), one, other))
        deep = Frame(good("coat worn far (mix far 9 wool, button whole far (mix far 5 hair))"),
                     good("coat worn far (mix far 9 wool, button whole far (mix far 5 wool))"), (1, 0))
        self.assertTrue(is_frame(deep, one, other))
        self.assertEqual(deep.around(), 3)

    def test_other_stocks_and_roots(self):
        one, strange = good("mix far 1 hair"), good("mix far 1 hair", WIDE)
        frame = Frame(one, one, ())
        self.assertEqual(caught(lambda: is_frame(frame, strange, strange)), ("OtherStock", 1))
        self.assertEqual(caught(lambda: is_frame(frame, one, strange)), ("OtherStock", 2))
        self.assertFalse(is_frame(frame, one, good("button worn far (mix far 1 hair)")))
        self.assertFalse(is_frame(frame, good("button worn far (mix far 1 hair)"), one))


class ExchangeableTest(unittest.TestCase):
    def test_at_the_top_and_deep_within(self):
        book = read_book(STOCK, "heading 1 is any\nheading 2 is some main over 1/2 hair\nheading 3 is mix and over 2/3 wool\nrules last")
        one, other, third = good("mix far 2 hair"), good("mix far 2 hair 1 wool"), good("mix far 1 hair 2 wool")
        frame = exchangeable(book, one, good("mix far 7 wool"))
        self.assertEqual((frame.place, frame.around(), frame.first.weight), ((), 0, 14))
        self.assertTrue(is_frame(frame, one, good("mix far 7 wool")))
        self.assertIsNone(exchangeable(book, one, other))
        self.assertIsNone(exchangeable(book, one, one * 5))
        frame = exchangeable(book, other, third)
        self.assertEqual((frame.around(), len(frame.place)), (2, 2))
        self.assertTrue(is_frame(frame, other, third))
        self.assertEqual((book(frame.first), book(frame.second)), ("2", "1"))

    def test_weights_that_are_equal_only_when_multiplied(self):
        book = read_book(STOCK, "heading 1 is any\nheading 2 is main over 1/2 hair\nrules last")
        frame = exchangeable(book, good("mix far 6 hair"), good("mix far 4 wool"))
        self.assertEqual(frame.first[frame.place].weight, frame.second[frame.place].weight)
        self.assertEqual(frame.first[frame.place].weight % 12, 0)
        self.assertEqual(frame.around(), 1)

    def test_beside_the_main_part(self):
        book = read_book(STOCK, "heading 1 is any\nheading 2 is some (mix and over 1/2 hair) and main form button\nrules last")
        frame = exchangeable(book, good("mix far 1 hair"), good("mix far 1 wool"))
        self.assertEqual((frame.around(), frame.first.many), (3, 2))
        self.assertEqual({book(frame.first), book(frame.second)}, {"1", "2"})

    def test_beside_the_main_part_and_within_another(self):
        text = "heading 1 is any\nheading 2 is some (form coat and over 1/2 hair) and main form button\nrules last"
        frame = exchangeable(read_book(WIDE, text), good("mix far 1 hair", WIDE), good("mix far 1 wool", WIDE))
        self.assertEqual((frame.around(), len(frame.place)), (4, 2))
        text = "heading 1 is any\nheading 2 is some (each not (form coat and over 1/2 hair) and main form button)\nrules last"
        frame = exchangeable(read_book(WIDE, text), good("mix far 1 hair", WIDE), good("mix far 1 wool", WIDE))
        self.assertEqual((frame.around(), len(frame.place)), (5, 3))

    def test_least_among_several_ways(self):
        one, other = good("mix far 1 hair", WIDE), good("mix far 1 wool", WIDE)
        text = "heading 1 is any\nheading 2 is parts 3 and some form button and main over 1/2 hair\nrules last"
        self.assertEqual(exchangeable(read_book(WIDE, text), one, other).around(), 4)
        text = "heading 1 is any\nheading 2 is parts 3 and some (form button and parts 2) and main (mix and over 1/2 hair)\nrules last"
        self.assertEqual(exchangeable(read_book(WIDE, text), one, other).around(), 5)
        beside = "some (mix and over 1/2 hair) and main form button"
        text = f"heading 1 is any\nheading 2 is main main (mix and over 1/2 hair) or {beside}\nrules last"
        self.assertEqual(exchangeable(read_book(WIDE, text), one, other).around(), 2)
        text = f"heading 1 is any\nheading 2 is parts 3 and some form button and main (mix and over 1/2 hair) or {beside}\nrules last"
        self.assertEqual(exchangeable(read_book(WIDE, text), one, other).around(), 3)
        text = "heading 1 is any\nheading 2 is some over 1/2 hair and main (form coat and some form button) or " \
               "main over 1/2 hair and some form button and parts 2\nrules last"
        self.assertEqual(exchangeable(read_book(WIDE, text), one, other).around(), 3)

    def test_many_layers_deep(self):
        for word, size in (("some", 13), ("main", 13), ("some main", 25), ("some each", 25)):
            text = f"heading 1 is any\nheading 2 is {(word + ' ') * 12}(not mix and over 1/2 hair)\nrules last"
            book = read_book(WIDE, text)
            one, other = good("mix far 1 hair", WIDE), good("mix far 1 wool", WIDE)
            frame = exchangeable(book, one, other)
            self.assertEqual((frame.around(), len(frame.place)), (size, size))
            self.assertTrue(is_frame(frame, one, other))
            self.assertNotEqual(book(frame.first), book(frame.second))

    def test_errors(self):
        book = read_book(STOCK, "heading 1 is any\nrules")
        one, strange = good("mix far 1 hair"), good("mix far 1 hair", WIDE)
        thing = good("button worn far (mix far 1 hair)")
        self.assertEqual(caught(lambda: exchangeable(book, strange, strange)), ("OtherStock", 1))
        self.assertEqual(caught(lambda: exchangeable(book, thing, strange)), ("OtherStock", 2))
        self.assertEqual(caught(lambda: exchangeable(book, one, thing)), ("OtherRoot", "button"))
        self.assertEqual(caught(lambda: exchangeable(book, thing, one)), ("OtherRoot", "mix"))

    def test_all_small_frames(self):
        rng = fixed_random(61)
        told = []
        for stock, limit in ((STOCK, 4), (WIDE, 3), (twin_stock(), 3)):
            pool = goods_of(stock, 2, 1, stock.lands[:1])
            goods = goods_of(stock, 2, 2, stock.lands[:1])
            layers = small_layers(stock, [one for one in pool if one.size == 1][:2] + rng.sample(pool, 3))
            layers = [layer for layer in layers if layer[5] <= limit]
            for _ in range(60):
                book = book_from(stock, rng, 5, 5)
                pairs = [rng.sample(goods, 2) for _ in range(30)]
                pairs = [row for row in pairs if row[0].root == row[1].root and book(row[0]) == book(row[1])][:2]
                for first, second in pairs:
                    frame = exchangeable(book, first, second)
                    slow = slow_least(book, first, second, layers, limit)
                    told.append(-1 if frame is None else frame.around())
                    if frame is None:
                        self.assertIsNone(slow)
                    else:
                        self.assertTrue(is_frame(frame, first, second))
                        self.assertTrue(is_sound(frame.first) and is_sound(frame.second))
                        self.assertNotEqual(book(frame.first), book(frame.second))
                        self.assertTrue(slow is None or frame.around() <= slow)
                        self.assertTrue(frame.around() > 0)
        self.assertTrue({-1, 1, 2, 3} <= set(told), set(told))


class FullSetTest(unittest.TestCase):
    def test_one_class_for_each_root(self):
        book = read_book(STOCK, "heading 1 is any\nrules")
        self.assertEqual(sorted((one.root, one.size) for one in full_set(book)), [("button", 2), ("coat", 2), ("mix", 1)])
        book = read_book(WIDE, "heading 1 is any\nrules")
        self.assertEqual(sorted(one.root for one in full_set(book)), ["button", "coat", "mix"])

    def test_classes_that_only_things_tell_apart(self):
        book = read_book(STOCK, "heading 1 is any\nheading 2 is each over 1/2 hair\nrules last")
        # hair in the mix, and in the mix alone, is told apart: `each` is true of every mix itself
        found = sorted((one.root, book(one)) for one in full_set(book))
        self.assertEqual(found, [("button", "1"), ("button", "2"), ("coat", "1"), ("coat", "2"), ("mix", "2"), ("mix", "2")])

    def test_classes_that_are_parted_one_after_another(self):
        stock = Stock(["a", "b"], ["s"], ["l"], [("f", 1, 1, ["f", "mix"])])
        for many in range(7):
            text = f"heading 1 is any\nheading 2 is {'main ' * many}(mix and over 1/2 a)\nrules last"
            sizes = sorted((one.root, one.size) for one in full_set(read_book(stock, text)))
            self.assertEqual(sizes, [("f", 2), *[("f", size) for size in range(2, many + 2)], ("mix", 1), ("mix", 1)])

    def test_classes_that_differ_only_beside_the_main_part(self):
        book = read_book(STOCK, "heading 1 is any\nheading 2 is some over 1/2 hair and main form button\nrules last")
        full = full_set(book)
        self.assertEqual(sorted(one.root for one in full), ["button", "button", "coat", "coat", "mix", "mix"])
        other = read_book(STOCK, "heading 1 is any\nheading 2 is some (mix and over 1/2 hair) and main form button\nrules last")
        self.assertEqual(sorted(one.root for one in full_set(other)), ["button", "coat", "coat", "mix", "mix"])
        self.assertEqual(sorted(one.grams("hair") > one.grams("wool") for one in full if one.root == "mix"), [False, True])
        for text in ("some parts 2 and main mix", "some parts 2 and main mix and parts 3"):
            book = read_book(WIDE, f"heading 1 is any\nheading 2 is {text}\nrules last")
            self.assertEqual(sorted(one.root for one in full_set(book)), ["button", "button", "coat", "coat", "coat", "mix"])
        book = read_book(WIDE, "heading 1 is any\nheading 2 is each not parts 2 and main mix and parts 2\nrules last")
        self.assertEqual(sorted(one.root for one in full_set(book)), ["button", "button", "coat", "coat", "coat", "mix"])
        book = read_book(WIDE, "heading 1 is any\nheading 2 is each (mix or form coat and parts 2) and main parts 2 and parts 3\nrules last")
        self.assertEqual(sorted(one.root for one in full_set(book)), ["button", "coat", "coat", "coat", "mix"])

    def test_random_books(self):
        rng = fixed_random(62)
        for stock in (STOCK, WIDE, twin_stock()):
            goods = goods_of(stock, 3, 1, stock.lands[:1])
            for _ in range(12):
                book = book_from(stock, rng, 4, 4)
                full = full_set(book)
                self.assertIsInstance(full, tuple)
                self.assertTrue(all(is_sound(one) for one in full))
                some = rng.sample(full, min(8, len(full)))
                for first, second in itertools.combinations(some, 2):
                    if first.root == second.root:
                        self.assertIsNotNone(exchangeable(book, first, second))
                for one in rng.sample(goods, 6):
                    same = [other for other in full if other.root == one.root and exchangeable(book, one, other) is None]
                    self.assertEqual(len(same), 1)
                    self.assertLessEqual(same[0].size, one.size)

    def test_a_full_set_of_a_book_with_main(self):
        stock = twin_stock()
        book = Book(stock, [("1", "", ("over", "a", 1, 2)), ("2", "", ("form", "p"))], rules=["main"])
        for one in full_set(book):
            self.assertEqual([other for other in full_set(book) if other.root == one.root and
                              exchangeable(book, one, other) is None], [one])


if __name__ == "__main__":
    unittest.main()
