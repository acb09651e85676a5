"""Promises [33] and [34]: open goods, their fillings, what settles them."""

import itertools
import unittest
from math import gcd

from fallsunder.books import Book
from fallsunder.booktext import read_book
from fallsunder.facts import doubt, fewest_facts, settles
from fallsunder.goods import Good
from fallsunder.goodtext import read_good
from fallsunder.opengoods import OpenGood, fallings
from fallsunder.terms import Term
from tests.samples import (book_from, caught, fixed_random, goods_of, holds, is_sound, plain_main, random_term, slow_of,
                           small_stock, twin_stock, wide_stock)

STOCK, WIDE = small_stock(), wide_stock()
ANY, NONE, MIX = ("any",), ("none",), ("mix",)
HAIR = ("mix", "far", (("hair", 2),))
OPEN = ("open", ANY)


def good(text):
    return read_good(STOCK, text)


def proportions(plain):
    """A plain good with its grams in lowest terms."""
    def grams(node):
        return [worth for _, worth in node[2]] if node[0] == "mix" else [g for part in node[3] for g in grams(part)]

    by = gcd(*grams(plain))

    def cut(node):
        if node[0] == "mix":
            return ("mix", node[1], tuple((stuff, worth // by) for stuff, worth in node[2]))
        return (*node[:3], tuple(cut(part) for part in node[3]))
    return cut(plain)


def fills(node, plain):
    """Is a plain good a filling of a plain open good? Told by the words of the document."""
    if node[0] == "open":
        return holds(node[1], plain)
    if node[0] != plain[0]:
        return False
    if node[0] == "mix":
        return proportions(("mix", node[1], node[2])) == proportions(plain)
    if node[1] not in ("open", plain[1]) or node[2] != plain[2] or len(node[4]) != len(plain[3]):
        return False
    return node[3] in ("open", plain_main(plain)) and all(fills(n, p) for n, p in zip(node[4], plain[3]))


def what_stands(blank, one):
    """What a filling has at an open place."""
    part = one[blank[1]]
    return {"state": part.state, "main": part.main}[blank[0]] if blank[0] != "part" else proportions(part.plain)


def random_open(stock, rng, depth, roots, left):
    """A plain open good; left is a list with the number of places that may still be open."""
    if left[0] > 0 and rng.random() < 0.4:
        left[0] -= 1
        return ("open", random_term(stock, rng, rng.choice([0, 0, 1, 2])))
    root = rng.choice(roots if depth > 0 or "mix" not in roots else ["mix"])
    if root == "mix":
        pairs = [(stuff, rng.randint(1, 3)) for stuff in rng.sample(stock.stuffs, rng.randint(1, 2))]
        return ("mix", rng.choice(stock.lands), tuple(sorted(pairs)))
    least, most, takes = stock[root]
    many = rng.randint(least, most)
    state, main = rng.choice(stock.states), rng.randrange(many)
    if left[0] > 0 and rng.random() < 0.4:
        left[0] -= 1
        state = "open"
    if left[0] > 0 and rng.random() < 0.4:
        left[0] -= 1
        main = "open"
    return (root, state, rng.choice(stock.lands), main,
            tuple(random_open(stock, rng, depth - 1, takes, left) for _ in range(many)))


def random_filling(stock, rng, node, pool, roots):
    """A random Good that fills a node, its open parts taken from a pool; None if the pool has none."""
    if node[0] == "open":
        fit = [one for one in pool if one.root in roots and holds(node[1], one.plain)]
        return rng.choice(fit) * rng.randint(1, 3) if fit else None
    if node[0] == "mix":
        return Good(stock, ("mix", node[1], node[2])) * rng.randint(1, 3)
    parts = [random_filling(stock, rng, part, pool, stock[node[0]][2]) for part in node[4]]
    if None in parts:
        return None
    main = rng.randrange(len(parts)) if node[3] == "open" else node[3]
    heaviest = max(part.weight for part in parts)
    parts[main] = parts[main] * (heaviest // parts[main].weight + 1)
    state = rng.choice(stock.states) if node[1] == "open" else node[1]
    return Good(stock, (node[0], state, node[2], tuple(part.plain for part in parts)))


class OpenGoodTest(unittest.TestCase):
    def test_attributes_and_blanks(self):
        plain = ("coat", "open", "far", "open", (OPEN, ("button", "open", "far", 0, (("open", MIX),))))
        one = OpenGood(STOCK, plain)
        self.assertEqual((one.stock, one.plain), (STOCK, plain))
        self.assertEqual(one.blanks, (("state", ()), ("main", ()), ("part", (0,)), ("state", (1,)), ("part", (1, 0))))
        self.assertEqual(OpenGood(STOCK, OPEN).blanks, (("part", ()),))
        self.assertEqual(OpenGood(STOCK, HAIR).blanks, ())
        only = OpenGood(STOCK, ("button", "worn", "far", "open", (HAIR,)))
        self.assertEqual(only.blanks, (("main", ()),))
        self.assertEqual(one, OpenGood(small_stock(), plain))
        self.assertFalse(one == only)
        self.assertFalse(one == OpenGood(WIDE, plain))
        self.assertFalse(one == plain)

    def test_five_and_six_open_places(self):
        inner = ("button", "open", "far", "open", (OPEN,))
        self.assertEqual(len(OpenGood(STOCK, ("coat", "open", "far", 0, (inner, OPEN))).blanks), 5)
        self.assertEqual(caught(lambda: OpenGood(STOCK, ("coat", "open", "far", "open", (inner, OPEN)))), ("BadOpen", ()))

    def test_nodes_that_are_none(self):
        rows = [(["open", ANY], ()), (("open",), ()), (("open", ANY, 1), ()), (("open", ("x",)), ()), (("open", ["any"]), ()),
                (("open", Term(ANY)), ()), (("open", ("some", ("falls", "1"))), ()), (("open", ("form", "ghost")), ()),
                (("open", ("state", "coat")), ()), (("mix", "near", (("hair", 1),)), ()), (("mix", "far", ()), ()),
                (("mix", "far", (("wool", 1), ("hair", 1))), ()), (("mix", "far", (("hair", 0),)), ()),
                (("mix", "far", (("hair", True),)), ()), (("mix", "far", [("hair", 1)]), ()), (("mix", "open", (("hair", 1),)), ()),
                (("coat", "worn", "far", (HAIR,)), ()), (("coat", "new", "far", 0, (HAIR,)), ()), (("coat", "worn", "open", 0, (HAIR,)), ()),
                (("ghost", "worn", "far", 0, (HAIR,)), ()), (("coat", "worn", "far", 1, (HAIR,)), ()), (("coat", "worn", "far", -1, (HAIR,)), ()),
                (("coat", "worn", "far", True, (HAIR, HAIR)), ()), (("coat", "worn", "far", "0", (HAIR,)), ()),
                (("coat", "worn", "far", None, (HAIR,)), ()), (("coat", "worn", "far", 0, ()), ()), (("coat", "worn", "far", 0, (HAIR,) * 3), ()),
                (("coat", "worn", "far", 0, [HAIR]), ()), (("coat", ["open"], "far", 0, (HAIR,)), ()), ("open", ()), (None, ()), ((), ()),
                (("coat", "worn", "far", 0, (("coat", "worn", "far", 0, (HAIR,)),)), (0,)),
                (("button", "worn", "far", 0, (("button", "worn", "far", 0, (HAIR,)),)), (0,)),
                (("coat", "worn", "far", 0, (HAIR, ("open", ("x",)))), (1,)),
                (("coat", "worn", "far", 5, (("x",), ("y",))), ()),
                (("coat", "worn", "far", 0, (("button", "worn", "far", 0, (5,)), ("x",))), (0, 0)),
                (("coat", "worn", "far", 0, (OPEN, ("button", "worn", "far", 0, (OPEN, OPEN)))), (1,)),
                (("coat", "worn", "far", 0, (("good", "worn", "far", (HAIR,)), HAIR)), (0,))]
        for plain, place in rows:
            self.assertEqual(caught(lambda: OpenGood(STOCK, plain)), ("BadOpen", place), plain)

    def test_fillings(self):
        one = OpenGood(STOCK, ("coat", "open", "far", 1, (("mix", "far", (("hair", 4), ("wool", 2))), ("open", ("over", "wool", 1, 2)))))
        rows = [("coat worn far (mix far 2 hair 1 wool, mix far 4 wool)", True),
                ("coat whole far (mix far 20 hair 10 wool, button worn far (mix far 31 wool))", True),
                ("coat whole far (mix far 2 hair 1 wool, mix far 3 wool)", False),
                ("coat whole far (mix far 2 hair 2 wool, mix far 5 wool)", False),
                ("coat whole far (mix far 2 hair 1 wool, mix far 5 hair)", False),
                ("coat whole far (mix far 2 hair 1 wool)", False),
                ("coat whole far (mix far 3 hair, mix far 5 wool)", False),
                ("button whole far (mix far 3 wool)", False), ("mix far 3 wool", False)]
        for text, truth in rows:
            self.assertIs(one(good(text)), truth, text)
        self.assertEqual(caught(lambda: one(Good(WIDE, HAIR))), ("OtherStock", 1))
        two = OpenGood(WIDE, ("coat", "worn", "far", "open", (("mix", "here", (("hair", 1),)), OPEN)))
        self.assertTrue(two(read_good(WIDE, "coat worn far (mix here 7 hair, mix far 1 wool)")))
        self.assertFalse(two(read_good(WIDE, "coat worn far (mix far 7 hair, mix far 1 wool)")))
        self.assertFalse(two(read_good(WIDE, "coat worn here (mix here 7 hair, mix far 1 wool)")))
        self.assertFalse(two(read_good(WIDE, "coat whole far (mix here 7 hair, mix far 1 wool)")))

    def test_random_fillings(self):
        rng = fixed_random(81)
        goods = goods_of(STOCK, 3, 2)
        for _ in range(60):
            plain = random_open(STOCK, rng, 2, ["mix", "coat", "button"], [3])
            one = OpenGood(STOCK, plain)
            for part in rng.sample(goods, 30):
                self.assertEqual(one(part), fills(plain, part.plain))
            made = random_filling(STOCK, rng, plain, goods, ["mix", "coat", "button"])
            self.assertTrue(made is None or one(made))


class FallingsTest(unittest.TestCase):
    BOOK = read_book(STOCK, "heading 1 is mix\nheading 2 is main over 1/2 hair\nheading 3 is parts 1\nrules first")

    def test_fallings(self):
        plain = ("coat", "worn", "far", "open", (("open", ("over", "wool", 1, 2)), ("mix", "far", (("hair", 6),))))
        found = fallings(self.BOOK, OpenGood(STOCK, plain))
        self.assertEqual([(result, one.size) for result, one in found], [("2", 3), ("3", 3)])
        found = fallings(self.BOOK, OpenGood(STOCK, ("open", ("parts", 2))))
        self.assertEqual([(result, one.size) for result, one in found], [("2", 3), ("3", 3)])
        self.assertEqual([row[0] for row in fallings(self.BOOK, OpenGood(STOCK, OPEN))], ["1", "2", "3"])
        (result, one), = fallings(self.BOOK, OpenGood(STOCK, HAIR))
        self.assertEqual((result, proportions(one.plain)), ("1", proportions(HAIR)))

    def test_without_fillings(self):
        for term in (NONE, ("form", "coat"), ("state", "worn")):
            one = OpenGood(STOCK, ("button", "open", "far", "open", (("open", term),)))
            self.assertEqual(fallings(self.BOOK, one), ())
            self.assertEqual((fewest_facts(self.BOOK, one), doubt(self.BOOK, one, []), settles(self.BOOK, one, [0])), ((), None, True))
        self.assertEqual(fallings(self.BOOK, OpenGood(STOCK, ("open", NONE))), ())

    def test_least_by_the_parts_that_are_taken(self):
        book = read_book(WIDE, "heading 1 is some form coat\nheading 2 is any\nrules first")
        found = fallings(book, OpenGood(WIDE, ("coat", "worn", "far", 0, (OPEN,))))
        self.assertEqual([(result, one.size) for result, one in found], [("1", 3), ("2", 2)])
        found = fallings(book, OpenGood(WIDE, ("button", "worn", "far", 0, (OPEN,))))
        self.assertEqual([(result, one.size) for result, one in found], [("2", 2)])

    def test_least_among_several_ways(self):
        three = ("coat", "worn", "far", 0, (OPEN, OPEN, OPEN))
        two = ("coat", "worn", "far", "open", (OPEN, OPEN))
        rows = [("main (form coat and some form coat) or some form button and main mix", two, 4), ("main main mix", two, 4),
                ("some form button and main mix", three, 5), ("some form button and some form coat and main mix", three, 6),
                ("main some form coat or each not mix", two, 5),
                ("main mix and (some form coat or some form button or some (parts 2 and form button))", two, 4),
                ("main mix and (some (parts 2 and form button) or some form coat)", two, 4),
                ("main form button and some parts 2 or main parts 3 and some mix", two, 5)]
        for text, plain, size in rows:
            book = read_book(WIDE, f"heading 1 is {text}\nheading 2 is any\nrules first")
            self.assertEqual(dict(fallings(book, OpenGood(WIDE, plain)))["1"].size, size, text)

    def test_roots_that_the_thing_directly_above_takes(self):
        book = read_book(WIDE, "heading 1 is some some not mix\nheading 2 is any\nrules first")
        one = OpenGood(WIDE, ("coat", "worn", "far", 0, (("button", "worn", "far", 0, (OPEN,)),)))
        self.assertEqual([row[0] for row in fallings(book, one)], ["2"])
        self.assertEqual(fewest_facts(book, one), ())
        one = OpenGood(WIDE, ("coat", "worn", "far", 0, (("coat", "worn", "far", 0, (OPEN,)),)))
        self.assertEqual([(row[0], row[1].size) for row in fallings(book, one)], [("1", 4), ("2", 3)])

    def test_errors(self):
        one = OpenGood(WIDE, OPEN)
        for call in (lambda: fallings(self.BOOK, one), lambda: doubt(self.BOOK, one, [9]), lambda: settles(self.BOOK, one, [9]),
                     lambda: fewest_facts(self.BOOK, one)):
            self.assertEqual(caught(call), ("OtherStock", 1))

    def test_random_open_goods(self):
        rng = fixed_random(82)
        for stock, nodes in ((STOCK, 4), (WIDE, 3), (twin_stock(), 4)):
            goods = goods_of(stock, nodes, 1)
            for _ in range(50):
                book = book_from(stock, rng, 5, 4)
                plain = random_open(stock, rng, 2, ["mix", stock.forms[0][0]], [5])
                one, slow = OpenGood(stock, plain), slow_of(book)
                found, least = fallings(book, one), {}
                for part in goods:
                    if fills(plain, part.plain):
                        result = slow.result(part.plain)
                        least[result] = min(least.get(result, 1000), part.size)
                self.assertEqual(list(found), sorted(found, key=lambda row: row[0]))
                told = dict(found)
                for result, size in least.items():
                    self.assertLessEqual(told[result].size, size)
                for result, part in found:
                    self.assertTrue(fills(plain, part.plain) and is_sound(part))
                    self.assertEqual(slow.result(part.plain), result)
                for _ in range(10):
                    made = random_filling(stock, rng, plain, goods, ["mix", *[row[0] for row in stock.forms]])
                    if made is not None:
                        self.assertLessEqual(told[book(made)].size, made.size)


class FactsTest(unittest.TestCase):
    BOOK = read_book(STOCK, "heading 1 is state worn and main over 1/2 hair\nheading 2 is some form button\nheading 3 is any\nrules first")
    PLAIN = ("coat", "open", "far", "open", (("open", MIX), ("mix", "far", (("hair", 1),))))

    def test_fewest(self):
        one = OpenGood(STOCK, self.PLAIN)
        self.assertEqual(one.blanks, (("state", ()), ("main", ()), ("part", (0,))))
        self.assertEqual(fewest_facts(self.BOOK, one), (0, 1, 2))
        for numbers, truth in [([0, 1, 2], True), ((2, 0, 1, 1), True), ([0, 1], False), ([], False), ([0, 2], False), ([1, 2], False)]:
            self.assertIs(settles(self.BOOK, one, numbers), truth)
        fixed = OpenGood(STOCK, ("coat", "open", "far", 1, self.PLAIN[4]))
        self.assertEqual(fewest_facts(self.BOOK, fixed), (0,))
        alone = OpenGood(STOCK, ("coat", "whole", "far", "open", (OPEN, ("open", MIX))))
        self.assertEqual(fewest_facts(self.BOOK, alone), (1,))

    def test_parts_that_are_multiples(self):
        one = OpenGood(STOCK, self.PLAIN)
        for numbers in ([0, 1], [0, 2], [1, 2], [2], [1], [0], []):
            first, second = doubt(self.BOOK, one, numbers)
            self.assertTrue(one(first) and one(second) and self.BOOK(first) != self.BOOK(second))
            for number in numbers:
                self.assertEqual(what_stands(one.blanks[number], first), what_stands(one.blanks[number], second))

    def test_bad_numbers(self):
        one = OpenGood(STOCK, self.PLAIN)
        for numbers, bad in [([3], 3), ([0, -1, 9], -1), ([True, 9], True), (["0"], "0"), ([None], None)]:
            for call in (doubt, settles):
                found = caught(lambda: call(self.BOOK, one, numbers))
                self.assertEqual((found, type(found[1])), (("BadRow", bad), type(bad)))

    def test_random_choices(self):
        rng = fixed_random(83)
        told = set()
        for stock in (STOCK, WIDE, twin_stock()):
            pool = goods_of(stock, 3, 1, stock.lands[:1])
            roots = ["mix", *[row[0] for row in stock.forms]]
            for _ in range(60):
                book = book_from(stock, rng, 5, 4)
                plain = random_open(stock, rng, 2, [stock.forms[0][0]], [rng.randint(1, 5)])
                one = OpenGood(stock, plain)
                fewest = fewest_facts(book, one)
                self.hold(book, one, fewest)
                told.add((len(one.blanks), len(fewest)))
                known = {}
                for _ in range(25):
                    made = random_filling(stock, rng, plain, pool, roots)
                    if made is not None:
                        key = tuple(what_stands(one.blanks[number], made) for number in fewest)
                        self.assertEqual(known.setdefault(key, book(made)), book(made))
        self.assertTrue({0, 1, 2} <= {row[1] for row in told}, told)

    def hold(self, book, one, fewest):
        """Exactly the choices with all of the fewest facts in them settle the open good."""
        numbers = range(len(one.blanks))
        for many in range(len(one.blanks) + 1):
            for choice in itertools.combinations(numbers, many):
                found = doubt(book, one, choice[::-1])
                self.assertEqual(found is None, set(fewest) <= set(choice))
                self.assertEqual(settles(book, one, choice), found is None)
                if found is not None:
                    self.assertTrue(all(one(part) and is_sound(part) for part in found))
                    self.assertNotEqual(book(found[0]), book(found[1]))
                    for number in choice:
                        self.assertEqual(*[what_stands(one.blanks[number], part) for part in found])

    def facts_of(self, text, plain):
        return fewest_facts(read_book(WIDE, f"heading 1 is {text}\nheading 2 is any\nrules first"), OpenGood(WIDE, plain))

    def test_beside_the_main_part(self):
        mix = ("open", MIX)
        coat = ("coat", "worn", "far", 0, (HAIR, mix))
        rows = [("some over 1/2 wool", coat, (0,)), ("each over 1/2 hair", coat, (0,)), ("main over 1/2 hair", coat, ()),
                ("some over 1/2 wool", (*coat[:3], 1, coat[4]), (0,)), ("main over 1/2 hair", (*coat[:3], 1, coat[4]), (0,)),
                ("some some over 1/2 wool", ("coat", "worn", "far", 0, (HAIR, coat)), (0,)),
                ("some (parts 1 and each over 1/2 hair)", ("coat", "worn", "far", 0, (HAIR, coat)), (0,)),
                ("main some over 1/2 wool", ("coat", "worn", "far", 0, (HAIR, coat)), ()),
                ("main some over 1/2 wool", ("coat", "worn", "far", 1, (HAIR, coat)), (0,)),
                ("each each (over 1/2 hair or form coat)", ("coat", "worn", "far", 0, (HAIR, coat, coat)), (0, 1)),
                ("each each over 1/2 hair", ("coat", "worn", "far", 2, (HAIR, coat, coat)), (0, 1)),
                ("each over 1/2 hair", ("coat", "worn", "far", "open", (HAIR, mix)), (1,)),
                ("each over 1/2 hair and main from 1/1 hair", ("coat", "worn", "far", "open", (HAIR, mix)), (0, 1)),
                ("each over 1/2 hair and main from 1/1 hair", ("coat", "worn", "far", "open", (HAIR, mix, mix)), (0, 1, 2)),
                ("some some state worn", ("coat", "worn", "far", 0, (HAIR, ("coat", "worn", "far", 0, (HAIR, ("button", "open", "far", 0, (HAIR,))))))
                 , (0,)),
                ("some main over 1/2 wool", ("coat", "worn", "far", 0, (HAIR, ("coat", "worn", "far", "open", (HAIR, mix)))), (0, 1))]
        for text, plain, numbers in rows:
            self.assertEqual(self.facts_of(text, plain), numbers, (text, plain))

    def test_what_is_seen_only_beside_some_parts(self):
        inner = ("coat", "worn", "far", 0, (("open", MIX), OPEN))
        plain = ("coat", "whole", "far", 0, (inner,))
        text = "some (some form button and some (mix and over 1/2 hair)) or some some (mix and over 1/3 wool) and state worn"
        self.assertEqual(self.facts_of(text, plain), (0, 1))
        self.assertEqual(self.facts_of(text.replace("some form button", "state whole"), plain), ())
        plain = ("coat", "whole", "far", 0, (("coat", "open", "far", 0, (("open", MIX), OPEN)),))
        self.assertEqual(self.facts_of(text.replace("some form button", "state whole"), plain), (0, 1, 2))
        plain = ("coat", "whole", "far", 0, (("coat", "worn", "far", "open", (("open", MIX), HAIR)),))
        text = "some (over 1/2 hair and main from 1/2 wool) or some main mix and state worn"
        self.assertEqual(self.facts_of(text, plain), ())
        text = "some (from 1/2 wool and main over 1/2 wool) or some over 1/3 hair and state worn"
        self.assertEqual(self.facts_of(text, plain), (0, 1))

    def test_four_open_parts(self):
        stock = WIDE
        book = Book(stock, [("1", "", ("some", ("over", "hair", 1, 2))), ("2", "", ("each", MIX)), ("3", "", ("any",))],
                    notes=[("3", "shuts", ("main", ("falls", "3")), "")], rules=["main", "first"])
        one = OpenGood(stock, ("coat", "open", "far", "open", (OPEN, OPEN, OPEN)))
        self.assertEqual(fewest_facts(book, one), (1, 2, 3, 4))


if __name__ == "__main__":
    unittest.main()
