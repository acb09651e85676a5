"""Promises [20] and [21]: narrower leaves, and how results come about."""

import unittest

from fallsunder.books import RESULTS
from fallsunder.booktext import read_book
from fallsunder.claims import implied, never
from fallsunder.goods import Good
from fallsunder.goodtext import read_good
from fallsunder.lines import narrow_pairs, narrower
from fallsunder.readings import Reading, results
from fallsunder.terms import Term
from tests.samples import (all_goods, book_from, caught, fixed_random, goods_of, line_term, plain_main, slow_of, small_stock,
                           wide_stock)

STOCK = small_stock()
HAIR, WOOL, ANY = "mix far 1 hair", "mix far 2 wool", ("any",)


def good(text):
    return read_good(STOCK, text)


class LinesTest(unittest.TestCase):
    BOOK = """heading 1 is parts 1
heading 1a under 1 is form coat
heading 1b under 1 is state worn
heading 1c under 1 is form coat and state worn
heading 2 is form coat
heading 3 is mix and parts 1
heading 4 is none
heading 5 is any
note 5 shuts any
note 1a takes any
rules"""

    def test_pairs(self):
        book = read_book(STOCK, self.BOOK)
        ordinary = ["1a", "1b", "1c", "2", "5"]
        pairs = [("1a", "5"), ("1b", "5"), ("1c", "1a"), ("1c", "1b"), ("1c", "2"), ("1c", "5"), ("2", "5")]
        pairs += [(empty, name) for empty in ("3", "4") for name in ordinary]
        leaves = book.leaves
        in_order = sorted(pairs, key=lambda row: (leaves.index(row[0]), leaves.index(row[1])))
        self.assertEqual(narrow_pairs(book), tuple(in_order))
        for first in leaves:
            for second in leaves:
                self.assertEqual(narrower(book, first, second), (first, second) in pairs)

    def test_no_leaf(self):
        book = read_book(STOCK, self.BOOK)
        for first, second, name in [("1", "9", "1"), ("1a", "1", "1"), ("", "1", ""), ("none", "1a", "none"), (1, "1", 1),
                                    ("1a", ["1a"], ["1a"])]:
            self.assertEqual(caught(lambda: narrower(book, first, second)), ("NoHeading", name))

    def test_random_lines(self):
        rng = fixed_random(41)
        for stock in (STOCK, wide_stock()):
            for _ in range(25):
                book = book_from(stock, rng, 6, 0, 2)
                for first, second in narrow_pairs(book):
                    one, other = [Term(line_term(book.headings, name)) for name in (first, second)]
                    self.assertIsNone(implied(stock, one, other))
                    self.assertIsNotNone(implied(stock, other, one))
                    if never(stock, one) is None:
                        self.assertIsNotNone(never(stock, other))
                for plain in all_goods(stock, 2, 1, stock.lands[:1]):
                    kept = [name for name in book.leaves if Term(line_term(book.headings, name))(Good(stock, plain))]
                    self.assertFalse([(k, h) for k, h in narrow_pairs(book) if k in kept and h not in kept])


class ReadingTest(unittest.TestCase):
    BOOK = """heading 1 is parts 1
heading 1a under 1 is form coat
heading 1b under 1 is any
heading 2 is some mix
heading 3 is mix and over 1/2 hair
note 1a sends 2 if each over 1/2 hair
note 3 shuts over 2/3 hair
note 2 sends 1b if state worn
note 1b sends 3 if parts 2
note 3 sends 2 if any
rules special main first"""

    def told(self, text):
        reading = Reading(read_book(STOCK, self.BOOK), good(text))
        return (reading.result, reading.fits, reading.steps, reading.found, reading.sent, reading.main_result,
                bool(reading), reading.ring())

    def test_no_leaf_fits(self):
        self.assertEqual(self.told(WOOL), ("none", (), (), "", (), "", False, ()))
        self.assertEqual(self.told(HAIR), ("none", (), (), "", (), "", False, ()))

    def test_one_leaf(self):
        text = f"coat worn far (button worn far ({WOOL}))"
        steps = (("special", ("1a",)),)
        self.assertEqual(self.told(text), ("1a", ("1a", "1b"), steps, "1a", (), "1b", True, ()))

    def test_rules_that_drop_nothing_and_rules_that_are_not_used(self):
        text = f"coat whole far ({WOOL})"
        steps = (("special", ("1a", "2")), ("main", ("1a", "2")), ("first", ("1a",)))
        self.assertEqual(self.told(text), ("1a", ("1a", "1b", "2"), steps, "1a", (), "none", True, ()))
        text = "coat whole far (mix far 3 hair 2 wool)"
        steps = (("special", ("1a", "2")), ("main", ("2",)))
        self.assertEqual(self.told(text), ("2", ("1a", "1b", "2"), steps, "2", (), "2", True, ()))

    def test_rings(self):
        ring = (("3", 4, "2"), ("2", 2, "1b"), ("1b", 3, "3"))
        book = read_book(STOCK, self.BOOK.replace("note 2 sends 1b if state worn", "note 2 sends 1b if any").replace(
            "1b sends 3 if parts 2", "1b sends 3 if any"))
        reading = Reading(book, good("mix far 3 hair 2 wool"))
        self.assertEqual((reading.result, reading.found, reading.sent, reading.ring()), ("ring", "3", ring, ("3", "2", "1b")))
        text = "coat whole far (mix far 3 hair 2 wool)"
        ahead = (("1a", 0, "2"), ("2", 2, "1b"), ("1b", 3, "3"), ("3", 4, "2"))
        reading = Reading(book, good(text))
        self.assertEqual((reading.result, reading.found, reading.sent), ("ring", "1a", ahead))
        self.assertEqual((reading.ring(), bool(reading), reading.main_result), (("2", "1b", "3"), False, "ring"))

    def test_two(self):
        book = read_book(STOCK, "heading 1 is mix\nheading 2 is any\nheading 3 is any\nrules main")
        reading = Reading(book, good(HAIR))
        self.assertEqual((reading.result, reading.steps, reading.found), ("two", (("main", ("1", "2", "3")),), ""))
        self.assertEqual(Reading(book.changed(rules=()), good(HAIR)).steps, ())

    def test_equal(self):
        book = read_book(STOCK, self.BOOK)
        self.assertEqual(Reading(book, good(WOOL)), Reading(book, good("mix far 9 wool")))
        self.assertNotEqual(Reading(book, good(WOOL)), Reading(book, good(f"button worn far ({WOOL})")))
        self.assertFalse(Reading(book, good(WOOL)) == "none")
        other = book.changed(rules=("main", "special", "first"))
        text = f"coat whole far ({WOOL})"
        self.assertEqual(Reading(book, good(text)).result, Reading(other, good(text)).result)
        self.assertNotEqual(Reading(book, good(text)), Reading(other, good(text)))

    def test_equal_in_all_six(self):
        text = "heading 1 is mix\nheading 2 is parts 1\nheading 3 is state worn\nheading 4 is over 1/2 hair\nrules first"
        book = read_book(STOCK, text)
        rows = [("mix far 1 wool", "mix far 1 hair", "fits"),
                ("button worn far (mix far 1 wool)", "coat worn far (button whole far (mix far 1 wool))", "main_result"),
                ("button worn far (mix far 1 hair)", "button worn far (mix far 1 wool)", "fits")]
        for one, other, name in rows:
            first, second = Reading(book, good(one)), Reading(book, good(other))
            self.assertNotEqual(getattr(first, name), getattr(second, name))
            self.assertEqual((first.result, first.found, first.sent), (second.result, second.found, second.sent))
            self.assertFalse(first == second)
        sends = [book.changed(notes=notes, rules=rules) for notes, rules in
                 [([], ["first"]), ([("1", "sends", ANY, "2"), ("2", "sends", ("mix",), "1")], ["first"]), ([], ["main", "first"]),
                  ([("1", "sends", ("none",), "2"), ("1", "sends", ("mix",), "2")], ["first"]),
                  ([("1", "sends", ("mix",), "2")], ["first"]), ([("1", "sends", ("mix",), "3")], ["first"])]]
        told = [Reading(one, good("mix far 1 hair")) for one in sends]
        for first in told:
            self.assertEqual([first == second for second in told].count(True), 1)

    def test_other_stock(self):
        book = read_book(STOCK, self.BOOK)
        strange = Good(wide_stock(), ("mix", "far", (("hair", 1),)))
        self.assertEqual(caught(lambda: Reading(book, strange)), ("OtherStock", 1))
        found = []
        def all_told():
            for result in results(book, [good(WOOL), good(HAIR), strange]):
                found.append(result)
        self.assertEqual(caught(all_told), ("OtherStock", 3))
        self.assertEqual(found, ["none", "none"])
        results(book, [strange])
        goods = [good(WOOL), good(HAIR), good(WOOL)]
        told = results(book, goods)
        self.assertEqual(next(told), "none")
        goods.clear()
        self.assertEqual(list(told), ["none", "none"])

    def test_random_readings(self):
        rng = fixed_random(43)
        for stock in (STOCK, wide_stock()):
            goods = goods_of(stock, 3, 1, stock.lands[:1])
            for _ in range(30):
                book = book_from(stock, rng, 6, 6)
                slow = slow_of(book)
                some = rng.sample(goods, 12)
                self.assertEqual(list(results(book, some)), [slow.result(one.plain) for one in some])
                for one in some:
                    self.look_through(book, slow, one, Reading(book, one))

    def look_through(self, book, slow, one, reading):
        self.assertEqual(reading.result, slow.result(one.plain))
        self.assertEqual(bool(reading), reading.result not in RESULTS)
        self.assertEqual(reading.fits, tuple(name for name in book.leaves if slow.fits(name, one.plain)))
        main = "" if one.root == "mix" else slow.result(one.plain[3][plain_main(one.plain)])
        self.assertEqual(reading.main_result, main)
        left = reading.fits
        self.assertEqual([rule for rule, _ in reading.steps], list(book.rules[:len(reading.steps)]))
        for rule, behind in reading.steps:
            self.assertGreater(len(left), 1)
            self.assertEqual(behind, tuple(name for name in left if name in behind))
            self.assertTrue(behind)
            if rule == "main":
                self.assertEqual(behind, (main,) if main in left else left)
            left = behind
        self.assertTrue(len(left) < 2 or len(reading.steps) == len(book.rules))
        self.assertEqual(reading.found, left[0] if len(left) == 1 else "")
        at, been = reading.found, [reading.found]
        for leaf, number, target in reading.sent:
            self.assertEqual((leaf, book.notes[number][:2], book.notes[number][3]), (at, (at, "sends"), target))
            self.assertTrue(slow.holds(book.notes[number][2], one.plain))
            for note in book.notes[:number]:
                self.assertFalse(note[:2] == (at, "sends") and slow.holds(note[2], one.plain))
            at = target
            been.append(at)
        if reading.result == "ring":
            self.assertEqual(reading.ring(), tuple(been[been.index(at):-1]))
        else:
            self.assertEqual(reading.ring(), ())
            self.assertEqual(reading.result, at if reading.found else reading.result)


if __name__ == "__main__":
    unittest.main()
