"""Promises [15] and [16]: marks, kinds, makings and papers."""

import itertools
import unittest

from fallsunder.books import Book
from fallsunder.errors import BadNumber, BadRow, BareFalls, OtherStock, Unknown
from fallsunder.goods import Good
from fallsunder.papers import gives, kind_of, leads_out, marks, paper
from fallsunder.stocks import Stock
from fallsunder.terms import Term
from fallsunder.termtext import read_term
from tests.samples import SlowBook, all_goods, fixed_random, plain_main, random_book, random_term, small_stock
from tests.samples import twin_stock, wide_stock

STOCK = small_stock()
HAIR = ("mix", "far", (("hair", 1),))


def text_of(rows):
    return [(Term(plain), owner) for plain, owner in rows]


def never_narrower(first, second):
    raise AssertionError("no rule asks for it")


def plain_book(rng, stock=STOCK):
    headings, notes, rules = random_book(stock, rng, 4, 4, 1)
    rules = [rule for rule in rules if rule != "special"]
    return Book(stock, headings, notes=notes, rules=rules), SlowBook(headings, notes, rules, never_narrower)


class MarksTest(unittest.TestCase):
    def test_order(self):
        first = read_term("some (form coat and over 1/2 wool) or from 1/3 hair")
        second = read_term("main each over 1/2 wool")
        told = ["some (form coat and over 1/2 wool) or from 1/3 hair", "main each over 1/2 wool",
                "form coat and over 1/2 wool", "over 1/2 wool", "from 1/3 hair", "each over 1/2 wool"]
        self.assertEqual(text_of(marks(STOCK, [first, second])), [(read_term(text), -1) for text in told])
        self.assertEqual(marks(STOCK, [second, second, read_term("over 1/2 wool")])[2], (("each", ("over", "wool", 1, 2)), -1)[:2])
        self.assertEqual([row[0][0] for row in marks(STOCK, [second, second, read_term("over 1/2 wool")])],
                         ["main", "over", "each"])

    def test_falls_belong_to_their_books(self):
        book = Book(STOCK, [("1", "", ("some", ("mix",))), ("2", "", ("over", "hair", 1, 2))],
                    notes=[("1", "takes", ("each", ("and", ("falls", "1"), ("some", ("falls", "2")))), ""),
                           ("2", "shuts", ("some", ("mix",)), "")])
        term = read_term("mix")
        rows = marks(STOCK, [book, term, book])
        falls = ("and", ("falls", "1"), ("some", ("falls", "2")))
        self.assertEqual(rows, ((("mix",), -1), (("over", "hair", 1, 2), -1), (falls, 0), (("falls", "2"), 0), (falls, 2),
                                (("falls", "2"), 2)))

    def test_kind_of(self):
        book = Book(STOCK, [("1", "", ("parts", 1)), ("2", "", ("mix",))], notes=[("2", "takes", ("some", ("falls", "1")), ""),
                                                                                ("1", "shuts", ("some", ("falls", "1")), "")])
        good = Good(STOCK, ("coat", "worn", "far", (("button", "whole", "far", (HAIR,)), HAIR)))
        watchers = [read_term("main form button"), book]
        self.assertEqual([row[0] for row in marks(STOCK, watchers)],
                         [("main", ("form", "button")), ("form", "button"), ("falls", "1")])
        self.assertEqual(kind_of(STOCK, watchers, good), ("coat", (True, False, False), ("2",)))
        self.assertEqual(kind_of(STOCK, watchers, good[(0,)]), ("button", (False, True, True), ("1",)))
        self.assertEqual(kind_of(STOCK, watchers, good[(1,)]), ("mix", (False, False, False), ("2",)))

    def test_errors(self):
        other = Good(wide_stock(), HAIR)
        for call in (marks, paper, lambda s, w: gives(s, w, ("coat", "worn", (), 0)), lambda s, w: leads_out(s, w, [None])):
            for watchers, kind in (([], BadNumber), ([read_term("falls a")], BareFalls), ([read_term("form a")], Unknown),
                                   ([Book(wide_stock(), [("1", "", ("mix",))])], OtherStock)):
                with self.assertRaises(kind):
                    call(STOCK, watchers)
        with self.assertRaises(OtherStock) as caught:
            kind_of(STOCK, [], other)
        self.assertEqual(caught.exception.number, 2)
        with self.assertRaises(BadNumber):
            kind_of(STOCK, [], Good(STOCK, HAIR))


class KindsTest(unittest.TestCase):
    def test_all_small_goods(self):
        rng = fixed_random(12)
        plains = all_goods(STOCK, 4)
        for _ in range(12):
            book, slow = plain_book(rng)
            rows = marks(STOCK, [book])
            told = paper(STOCK, [book])
            self.assertEqual(list(told), sorted(set(told)))
            for plain in rng.sample(plains, 40):
                kind = kind_of(STOCK, [book], Good(STOCK, plain))
                self.assertEqual(kind, slow.kind(rows, plain))
                self.assertIn(kind, told)
                if plain[0] != "mix":
                    parts = tuple(slow.kind(rows, part) for part in plain[3])
                    making = (plain[0], plain[1], parts, plain_main(plain))
                    self.assertEqual(gives(STOCK, [book], making), kind)

    def test_the_paper_is_the_least_closed_table(self):
        rng = fixed_random(13)
        for _ in range(10):
            watchers = [plain_book(rng)[0], Term(random_term(STOCK, rng, 2))]
            table = paper(STOCK, watchers)
            self.assertIsNone(leads_out(STOCK, watchers, table))
            self.assertIsNone(leads_out(STOCK, watchers, list(table) * 2))
            for left in rng.sample(table, min(4, len(table))):
                rows = [row for row in table if row != left]
                self.leads(watchers, rows)

    def leads(self, watchers, rows, stock=STOCK):
        found, kind = leads_out(stock, watchers, rows)
        self.assertNotIn(kind, rows)
        if isinstance(found, Good):
            self.assertEqual((found.root, kind_of(stock, watchers, found)), ("mix", kind))
        else:
            form, state, parts, main = found
            least, most, takes = stock[form]
            self.assertTrue(least <= len(parts) <= most and 0 <= main < len(parts) and state in stock.states)
            self.assertTrue(all(part in rows and part[0] in takes for part in parts))
            self.assertEqual(gives(stock, watchers, found), kind)

    def test_forms_that_take_the_same(self):
        rng = fixed_random(17)
        stock = twin_stock()
        plains = all_goods(stock, 5, 1)
        for _ in range(8):
            book, slow = plain_book(rng, stock)
            rows = marks(stock, [book])
            table = paper(stock, [book])
            kinds = {slow.kind(rows, plain) for plain in rng.sample(plains, 150)}
            self.assertLessEqual(kinds, set(table))
            # each kind is that of some good: without its row the table is not closed
            self.assertIsNone(leads_out(stock, [book], table))
            for left in rng.sample(table, min(5, len(table))):
                self.leads([book], [row for row in table if row != left], stock)

    def test_kinds_of_all_goods_and_of_no_others(self):
        stock = twin_stock()
        watchers = [read_term("some (form q and state t) and main mix"), read_term("form p or parts 3")]
        kinds = {kind_of(stock, watchers, Good(stock, plain)) for plain in all_goods(stock, 6, 1)}
        self.assertEqual(list(paper(stock, watchers)), sorted(kinds))

    def test_makings_of_many_parts(self):
        stock = Stock(list("abcd"), ["s"], ["l"], [("f", 4, 4, ["mix"]), ("g", 3, 3, ["mix", "f"])])
        for text in (" and ".join(f"some over 1/2 {stuff}" for stuff in "abcd"),
                     "form g and some form f and " + " and ".join(f"some over 1/2 {stuff}" for stuff in "ab")):
            watchers = [read_term(text)]
            table = paper(stock, watchers)
            self.assertIsNone(leads_out(stock, watchers, table))
            true = [row for row in table if row[1][0]]
            self.assertTrue(true)
            self.leads(watchers, [row for row in table if row not in true], stock)

    def test_tables_that_are_not_closed(self):
        watchers = [read_term("some (mix and over 1/2 hair)")]
        table = paper(STOCK, watchers)
        self.assertEqual([row[0] for row in table].count("mix"), 2)
        found, kind = leads_out(STOCK, watchers, [])
        self.assertEqual((found.root, kind[0]), ("mix", "mix"))
        mixes = [row for row in table if row[0] == "mix"]
        found, kind = leads_out(STOCK, watchers, mixes)
        self.assertNotEqual(kind[0], "mix")
        self.leads(watchers, mixes)

    def test_rows_that_are_nobodys(self):
        watchers = [read_term("some (mix and form coat)"), Book(STOCK, [("1", "", ("main", ("mix",)))], rules=["main"])]
        self.assertEqual([plain for plain, _ in marks(STOCK, watchers)],
                         [("some", ("and", ("mix",), ("form", "coat"))), ("and", ("mix",), ("form", "coat")), ("mix",)])
        for truths in itertools.product((False, True), repeat=3):
            row = ("mix", truths, ("ring",))
            kind = gives(STOCK, watchers, ("coat", "worn", (row,), 0))
            self.assertEqual(kind, ("coat", (truths[1], False, False), ("1" if truths[2] else "none",)))
            table = [*paper(STOCK, watchers), row]
            out = leads_out(STOCK, watchers, table)
            self.assertEqual(out is None, not truths[1] and truths[2])
        ghosts = wide_stock()
        row = ("ghost", (True,), ())
        out = leads_out(ghosts, [read_term("form ghost")], [*paper(ghosts, [read_term("form ghost")]), row])
        self.assertIsNone(out)
        out = leads_out(ghosts, [read_term("form ghost")], [*paper(ghosts, [read_term("form ghost")]), ("ghost", (False,), ())])
        self.assertEqual(out[1], ("ghost", (True,), ()))

    def test_making_by_rows_alone(self):
        rng = fixed_random(14)
        stock = STOCK
        for _ in range(40):
            watchers = [Term(random_term(stock, rng, 3)), plain_book(rng)[0]]
            rows = marks(stock, watchers)
            results = [*watchers[1].leaves, "none", "two", "ring"]
            parts = tuple((rng.choice(["mix", "button"]), tuple(rng.random() < 0.5 for _ in rows), (rng.choice(results),))
                          for _ in range(rng.randint(1, 2)))
            making = ("coat", rng.choice(stock.states), parts, rng.randrange(len(parts)))
            kind = gives(stock, watchers, making)
            self.assertEqual(kind[0], "coat")
            at = {plain: k for k, (plain, owner) in enumerate(rows)}

            def truth(term):
                word = term[0]
                if word in ("over", "from"):
                    return parts[making[3]][1][at[term]]
                if word == "some":
                    return any(part[1][at[term[1]]] for part in parts)
                if word == "each":
                    return all(part[1][at[term[1]]] for part in parts)
                if word == "main":
                    return parts[making[3]][1][at[term[1]]]
                if word in ("and", "or"):
                    both = (truth(term[1]), truth(term[2]))
                    return all(both) if word == "and" else any(both)
                if word == "not":
                    return not truth(term[1])
                if word == "falls":
                    return kind[2][0] in watchers[1].leaves and kind[2][0] in watchers[1].beneath(term[1])
                return {"any": True, "none": False, "mix": False, "form": term[-1] == "coat",
                        "state": term[-1] == making[1], "parts": word == "parts" and len(parts) >= term[-1]}[word]

            for k, (plain, _) in enumerate(rows):
                self.assertEqual(kind[1][k], truth(plain), (plain, making))

    def test_bad_rows(self):
        watchers = [read_term("some mix"), Book(STOCK, [("1", "", ("mix",)), ("2", "1", ("any",))])]
        good = ("mix", (False, True), ("2",))
        self.assertIsNotNone(leads_out(STOCK, watchers, [good, ("button", (True, False), ("ring",))]))
        for row in (None, list(good), ("mix", [False, True], ("2",)), ("mix", (False, True), ["2"]), ("hat", (False, True), ("2",)),
                    ("mix", (False,), ("2",)), ("mix", (False, True, True), ("2",)), ("mix", (0, 1), ("2",)),
                    ("mix", (False, True), ()), ("mix", (False, True), ("1",)), ("mix", (False, True), ("3",)),
                    ("mix", (False, True), (True,)), ("mix", (False, True)), (1, (False, True), ("2",)),
                    ("far", (False, True), ("2",)), (["mix"], (False, True), ("2",))):
            with self.subTest(row=row), self.assertRaises(BadRow) as caught:
                leads_out(STOCK, watchers, [good, row, None])
            self.assertEqual(caught.exception.number, 1)
        for rows, number in (((good, ("coat", (True, True), ("2",))), 1), ((("coat", (True, True), ("2",)),) * 2, 0)):
            with self.assertRaises(BadRow) as caught:
                gives(STOCK, watchers, ("coat", "worn", rows, 0))
            self.assertEqual(caught.exception.number, number)

    def test_large_tables(self):
        stock = Stock(list("abc"), ["s", "t"], ["l"], [("u", 1, 4, ["mix", "u", "v"]), ("v", 2, 4, ["mix", "u"])])
        watchers = [read_term("some (over 1/3 a and state s) and each (over 1/4 b or some (parts 3 and over 1/2 c))"),
                    Book(stock, [("1", "", ("parts", 2)), ("2", "", ("over", "a", 1, 2))], rules=["main"],
                         notes=[("1", "takes", ("some", ("falls", "2")), ""), ("2", "shuts", ("each", ("falls", "1")), "")])]
        table = paper(stock, watchers)
        self.assertGreater(len(table), 100)
        self.assertIsNone(leads_out(stock, watchers, table))
        self.assertIsNotNone(leads_out(stock, watchers, table[1:]))


if __name__ == "__main__":
    unittest.main()
