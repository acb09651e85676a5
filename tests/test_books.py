"""Promises [1] and [17] to [20]: books, what fits, results, narrower leaves."""

import unittest

from fallsunder.books import RESULTS, Book, is_heading
from fallsunder.errors import BadBook, BadName, BadNote, BadRule, BadTerm, BareFalls, NoHeading, OtherStock, Twice
from fallsunder.errors import Unknown
from fallsunder.goods import Good
from fallsunder.goodtext import read_good
from fallsunder.terms import Term
from fallsunder.termtext import read_term
from tests.samples import Narrower, SlowBook, all_goods, fixed_random, random_book, small_stock, wide_stock

STOCK = small_stock()
HAIR, WOOL = "mix far 1 hair", "mix far 2 wool"
ANY, MIX, NONE = ("any",), ("mix",), ("none",)


def term(text):
    return read_term(text).plain


def book_of(headings, notes=(), rules=()):
    return Book(STOCK, [(name, parent, term(text)) for name, parent, text in headings],
                notes=[(name, word, term(text), target) for name, word, text, target in notes], rules=rules)


def good(text):
    return read_good(STOCK, text)


class MadeTest(unittest.TestCase):
    HEADINGS = [["1", "", ANY], ("1a", "1", MIX), ["1b", "1", ("parts", 1)], ("2", "", NONE), ("1b1", "1b", ANY)]

    def test_attributes(self):
        notes = [["1a", "sends", ("some", ("falls", "2")), "2"], ("1", "shuts", NONE, "")]
        book = Book(STOCK, self.HEADINGS, notes=notes, rules=["first", "main"])
        self.assertEqual(book.headings, tuple(tuple(row) for row in self.HEADINGS))
        self.assertEqual(book.notes, tuple(tuple(row) for row in notes))
        self.assertEqual((book.rules, book.stock, book.leaves), (("first", "main"), STOCK, ("1a", "2", "1b1")))
        self.assertEqual(list(book), ["1", "1a", "1b", "2", "1b1"])
        self.assertEqual(book["1a"], ("1a", "1", MIX))
        self.assertTrue("1" in book and "3" not in book and "none" not in book and None not in book and ["1"] not in book)
        self.assertEqual((book.line_of("1b1"), book.line_of("1"), book.line_of("2")), (("1", "1b", "1b1"), ("1",), ("2",)))
        self.assertEqual((book.beneath("1"), book.beneath("1b"), book.beneath("2")), (("1a", "1b1"), ("1b1",), ("2",)))
        for name in ("3", "", "none", None, 1, ["1"]):
            for call in (lambda: book[name], lambda: book.line_of(name), lambda: book.beneath(name)):
                with self.assertRaises(NoHeading) as caught:
                    call()
                self.assertEqual(caught.exception.name, name)

    def test_what_is_passed_is_copied(self):
        headings, notes, rules = [["1", "", ANY], ["2", "", MIX]], [["1", "sends", MIX, "2"]], ["first"]
        book = Book(STOCK, headings, notes=notes, rules=rules)
        headings[0][0] = "9"
        headings.append(["3", "", ANY])
        notes[0][3] = "1"
        rules.append("main")
        self.assertEqual((book.headings, book.notes, book.rules),
                         ((("1", "", ANY), ("2", "", MIX)), (("1", "sends", MIX, "2"),), ("first",)))
        self.assertEqual(len(headings), 3)

    def test_equal_and_changed(self):
        book = Book(STOCK, self.HEADINGS, rules=["main"])
        self.assertTrue(book == Book(small_stock(), tuple(self.HEADINGS), rules=("main",)))
        self.assertFalse(book == Book(STOCK, self.HEADINGS) or book == "x" or book == None)  # noqa: E711
        self.assertFalse(book == Book(wide_stock(), self.HEADINGS, rules=["main"]))
        self.assertEqual(book.changed(), book)
        self.assertEqual(book.changed(rules=[]), Book(STOCK, self.HEADINGS))
        notes = [("2", "takes", ANY, "")]
        self.assertEqual(book.changed(notes=notes), Book(STOCK, self.HEADINGS, notes=notes, rules=["main"]))
        self.assertEqual(book.changed(notes=notes).changed(headings=[("2", "", ANY)], rules=()),
                         Book(STOCK, [("2", "", ANY)], notes=notes))
        with self.assertRaises(BadNote):
            book.changed(notes=[("9", "takes", ANY, "")])
        with self.assertRaises(BadRule):
            book.changed(rules=["x"])
        self.assertEqual(book.rules, ("main",))

    def test_heading_names(self):
        for name in ("1", "12345678", "abc", "a1b2", "0", "stuffs"):
            self.assertTrue(is_heading(name))
        for thing in ("", "123456789", "A", "a b", "none", "two", "ring", "mix", "\u0661", None, 1, ["1"]):
            self.assertFalse(is_heading(thing))
        self.assertEqual(RESULTS, ("none", "two", "ring"))


class ErrorsTest(unittest.TestCase):
    def fails(self, kind, told, headings, notes=(), rules=()):
        with self.subTest(headings=headings, notes=notes, rules=rules), self.assertRaises(kind) as caught:
            Book(STOCK, headings, notes=notes, rules=rules)
        self.assertEqual(list(vars(caught.exception).values()), [told])

    def test_parts(self):
        one, bad = [("1", "", ANY)], [("A", "", ANY)]
        for headings in ([], None, "1", [("1", "")], [("1", "", ANY, 1)], ["123"], [None],
                         [(f"h{k}", "", ANY) for k in range(13)]):
            self.fails(BadBook, "headings", headings, None, None)
        for notes in (None, "", [("1", "takes", ANY)], [("1", "takes", ANY, "", "")], ["1234"], [("1", "takes", ANY, "")] * 17, [None]):
            self.fails(BadBook, "notes", bad, notes, None)
        for rules in (None, "main", [1], ["first", None], ["first"] * 5, [["main"]]):
            self.fails(BadBook, "rules", bad, [("x",) * 4], rules)
        book = Book(STOCK, [(f"h{k}", "", ANY) for k in range(12)], notes=[("h1", "takes", ANY, "")] * 16,
                    rules=["special", "main", "first", "last"])
        self.assertEqual(len(book.leaves), 12)
        self.assertEqual(len(Book(STOCK, one).notes), 0)

    def test_headings(self):
        rows = [(BadName, "A", [("A", "x", None)]), (BadName, "none", [("none", "", ANY)]), (BadName, None, [(None, "", ANY)]),
                (Twice, "1", [("1", "", ANY), ("1", "x", None)]), (Unknown, "2", [("1", "2", None), ("2", "", ANY)]),
                (Unknown, "1", [("1", "1", None)]), (Unknown, None, [("1", None, None)]), (BadTerm, (), [("1", "", None)]),
                (BadTerm, (), [("1", "", Term(ANY))]), (BadTerm, (1,), [("1", "", ("and", ("falls", "1"), ("x",)))]),
                (BareFalls, "1", [("1", "", ("and", ("form", "x"), ("some", ("falls", "1"))))]),
                (BareFalls, "b", [("1", "", ("and", ("falls", "b"), ("falls", "a")))]),
                (Unknown, "x", [("1", "", ("or", ("form", "x"), ("state", "y")))]), (Unknown, "wool", [("1", "", ("form", "wool"))]),
                (BadTerm, (), [("1", "", ["any"]), ("1", "", ANY)]), (Twice, "1", [("1", "", ANY), ("1", "", ANY), ("A", "", ANY)])]
        for kind, told, headings in rows:
            self.fails(kind, told, headings, [("x", "x", None, "x")], ["x"])

    def test_notes(self):
        headings = [("1", "", ANY), ("1a", "1", ANY), ("2", "", ANY)]
        good_note = ("1", "takes", ("some", ("falls", "2")), "")
        for note in (("3", "takes", None, ""), ("1", "take", None, ""), ("1", "takes", None, "2"), ("1", "shuts", None, None),
                     ("1", "sends", None, "2"), ("2", "sends", None, "1"), ("2", "sends", None, ""), ("2", "sends", None, "2"),
                     ("2", "sends", None, "3"), (None, "takes", None, ""), ("2", ["sends"], None, "1a"), (1, "takes", None, "")):
            self.fails(BadNote, 1, headings, [good_note, note, ("3", "", None, "")], ["x"])
        rows = [(BadTerm, (), None), (BadTerm, (0,), ("not", ["any"])), (BareFalls, "2", ("and", ("some", ("falls", "1")), ("falls", "2"))),
                (BareFalls, "9", ("or", ("form", "x"), ("not", ("falls", "9")))),
                (BareFalls, "9", ("or", ("falls", "9"), ("falls", "8"))),
                (BareFalls, "9", ("and", ("not", ("falls", "9")), ("some", ("falls", "8")))),
                (Unknown, "x", ("and", ("some", ("falls", "9")), ("form", "x"))),
                (Unknown, "9", ("and", ("some", ("falls", "9")), ("main", ("falls", "8"))))]
        for kind, told, plain in rows:
            self.fails(kind, told, headings, [good_note, ("2", "sends", plain, "1a"), ("3", "", None, "")], ["x"])

    def test_rules(self):
        headings = [("1", "", ANY)]
        self.fails(BadRule, "x", headings, (), ["first", "x", "first"])
        self.fails(BadRule, "none", headings, (), ["none"])
        self.fails(Twice, "first", headings, (), ["first", "first", "x"])

    def test_order_over_all(self):
        self.fails(BadNote, 0, [("1", "", ANY)], [("2", "takes", ANY, "")], ["x", "x"])
        self.fails(BadName, "A", [("A", "", ANY)], [("2", "takes", ANY, "")], ["x"])


class ResultTest(unittest.TestCase):
    def test_fits(self):
        book = book_of([("1", "", "parts 1"), ("1a", "1", "form coat"), ("1b", "1", "state worn"), ("2", "", "mix")],
                       [("1", "takes", "over 1/2 wool", ""), ("1b", "takes", "mix", ""), ("1a", "shuts", "parts 2", ""),
                        ("2", "shuts", "from 1/1 hair", ""), ("1b", "shuts", "form button", "")])
        rows = [(HAIR, "none"), (WOOL, "two"), (f"coat whole far ({HAIR})", "1a"), (f"coat worn far ({HAIR})", "two"),
                (f"coat worn far ({HAIR}, {HAIR})", "1b"), (f"coat whole far ({HAIR}, {HAIR})", "none"),
                (f"button worn far ({HAIR})", "none"), ("mix far 1 hair 1 wool", "2")]
        for text, result in rows:
            self.assertEqual(book(good(text)), result, text)

    def test_shuts_ahead_of_takes(self):
        book = book_of([("1", "", "mix")], [("1", "takes", "any", ""), ("1", "shuts", "parts 1", "")])
        self.assertEqual((book(good(HAIR)), book(good(f"coat worn far ({HAIR})"))), ("1", "none"))

    def test_a_parent_that_does_not_fit(self):
        book = book_of([("1", "", "mix"), ("1a", "1", "any"), ("2", "", "none")], [("1a", "takes", "parts 1", "")])
        self.assertEqual((book(good(HAIR)), book(good(f"coat worn far ({HAIR})"))), ("1a", "none"))

    def test_rules_alone(self):
        headings = [("1", "", "any"), ("2", "", "parts 1"), ("3", "", "form coat"), ("4", "", "state worn")]
        coat, mix = good(f"coat worn far ({HAIR}, {HAIR})"), good(HAIR)
        for rules, result in (([], "two"), (["first"], "1"), (["last"], "4"), (["special"], "two"), (["main"], "1"),
                              (["special", "first"], "3"), (["special", "last"], "4"), (["first", "last"], "1"),
                              (["main", "first"], "1"), (["last", "special"], "4")):
            self.assertEqual(book_of(headings, rules=rules)(coat), result, rules)
            self.assertEqual(book_of(headings, rules=rules)(mix), "1")
        self.assertEqual(book_of(headings, rules=["special"])(good(f"coat whole far ({HAIR})")), "3")

    def test_main(self):
        headings = [("1", "", "over 1/2 hair or form coat"), ("2", "", "over 1/2 wool or form coat"), ("3", "", "parts 2")]
        book = book_of(headings, rules=["main"])
        self.assertEqual(book(good(f"coat worn far ({HAIR}, {WOOL})")), "2")
        self.assertEqual(book(good(f"coat worn far (mix far 3 hair, {WOOL})")), "1")
        self.assertEqual(book(good("coat worn far (mix far 1 hair 1 wool)")), "two")
        book = book_of(headings, rules=["first", "main"])
        self.assertEqual(book(good(f"coat worn far ({HAIR}, {WOOL})")), "1")

    def test_special_drops_all_at_once(self):
        headings = [("1", "", "any"), ("2", "", "parts 1"), ("3", "", "form coat"), ("4", "", "form coat and parts 2")]
        book = book_of(headings, rules=["special"])
        self.assertEqual(book(good(f"coat worn far ({HAIR}, {HAIR})")), "4")
        self.assertEqual(book(good(f"coat worn far ({HAIR})")), "3")
        same = book_of([("1", "", "any"), ("2", "", "any")], rules=["special"])
        self.assertEqual(same(good(HAIR)), "two")

    def test_special_asks_lines_and_no_notes(self):
        headings = [("1", "", "parts 1"), ("1a", "1", "any"), ("2", "", "any"), ("3", "", "none")]
        notes = [("3", "takes", "any", ""), ("2", "shuts", "none", "")]
        book = book_of(headings, notes, ["special"])
        self.assertEqual(book(good(f"coat worn far ({HAIR})")), "3")
        self.assertEqual(book(good(HAIR)), "3")
        other = book_of([("1", "", "none"), ("2", "", "mix and parts 1")], [("1", "takes", "any", ""), ("2", "takes", "any", "")],
                        ["special"])
        self.assertEqual(other(good(HAIR)), "two")

    def test_narrower_of_all_goods(self):
        headings = [("1", "", "some some mix"), ("2", "", "form coat"), ("3", "", "main over 1/2 wool and parts 1"),
                    ("4", "", "over 1/2 wool and parts 1")]
        book = book_of(headings, rules=["special"])
        self.assertEqual(book(good(f"coat worn far (button worn far ({HAIR}))")), "1")
        self.assertEqual(book(good(f"button worn far ({WOOL})")), "two")

    def test_sends(self):
        headings = [("1", "", "mix"), ("2", "", "form coat"), ("3", "", "form button"), ("4", "", "none")]
        book = book_of(headings, [("1", "sends", "over 1/2 wool", "2"), ("1", "sends", "any", "3"), ("3", "sends", "any", "4"),
                                  ("2", "sends", "parts 1", "1"), ("4", "sends", "from 1/2 hair and from 1/2 wool", "3")])
        rows = [(WOOL, "2"), (HAIR, "4"), ("mix far 1 hair 1 wool", "ring"), (f"coat whole far ({HAIR})", "4"),
                (f"coat whole far ({WOOL})", "ring"), (f"button whole far ({HAIR})", "4")]
        for text, result in rows:
            self.assertEqual(book(good(text)), result, text)

    def test_falls_in_notes(self):
        headings = [("1", "", "mix"), ("1a", "1", "over 1/2 hair"), ("1b", "1", "not over 1/2 hair"), ("2", "", "parts 1"),
                    ("2a", "2", "any"), ("2b", "2", "none")]
        book = book_of(headings, [("2b", "takes", "some falls 1a", ""), ("2a", "shuts", "each falls 1", ""),
                                  ("2b", "sends", "main falls 2a", "2a"), ("2a", "sends", "some each falls 1b", "2b")])
        rows = [(f"coat worn far ({HAIR})", "2b"), (f"coat worn far ({WOOL})", "none"),
                (f"coat worn far (button worn far ({HAIR}))", "2a"), (f"coat worn far (button worn far ({WOOL}))", "2b"),
                (f"coat worn far (button worn far ({WOOL}), {HAIR})", "two")]
        for text, result in rows:
            self.assertEqual(book(good(text)), result, text)

    def test_random_books(self):
        rng = fixed_random(15)
        for stock, nodes in ((STOCK, 4), (wide_stock(), 3)):
            plains = all_goods(stock, nodes, 1, stock.lands[:1])
            for _ in range(25):
                headings, notes, rules = random_book(stock, rng)
                narrower = Narrower(stock, headings)
                slow = SlowBook(headings, notes, rules, narrower.asked)
                book = Book(stock, headings, notes=notes, rules=rules)
                for plain in rng.sample(plains, 40):
                    self.assertEqual(book(Good(stock, plain)), slow.result(plain), (headings, notes, rules, plain))
                    self.assertEqual(book(Good(stock, plain) * 7), slow.result(plain))

    def test_other_stock(self):
        with self.assertRaises(OtherStock) as caught:
            book_of([("1", "", "any")])(Good(wide_stock(), ("mix", "far", (("hair", 1),))))
        self.assertEqual(caught.exception.number, 1)

    def test_deep_goods(self):
        stock = wide_stock()
        plain = ("mix", "far", (("hair", 1),))
        for _ in range(900):
            plain = ("coat", "worn", "far", (plain,))
        book = Book(stock, [("1", "", MIX), ("2", "", NONE)],
                    notes=[("1", "takes", ("main", ("falls", "2")), ""), ("2", "takes", ("main", ("falls", "1")), "")])
        self.assertEqual(book(Good(stock, plain)), "1")


if __name__ == "__main__":
    unittest.main()
