"""Promises [29] to [31]: carried tables, groups, chains."""

import itertools
import unittest

from fallsunder.booktext import read_book
from fallsunder.carried import Carried
from fallsunder.chains import Chain
from fallsunder.goods import Good
from fallsunder.goodtext import read_good
from fallsunder.groups import group_sums, groups, totals
from tests.samples import book_from, caught, fixed_random, goods_of, slow_of, small_stock, twin_stock, wide_stock

STOCK = small_stock()
OLD = "heading 1 is mix\nheading 2 is form coat\nheading 3 is parts 1\nheading 4 is none\nheading 5 is none\nrules first"
NEW = "heading 1 is mix\nheading 2 is parts 1\nheading 3 is parts 2\nheading 5 is none\nheading 6 is none\nrules last"


def book_of(text, stock=STOCK):
    return read_book(stock, text)


def good(text):
    return read_good(STOCK, text)


class CarriedTest(unittest.TestCase):
    def test_each_method(self):
        old, new = book_of(OLD), book_of(NEW)
        carried = Carried(old, new)
        self.assertEqual((carried.old, carried.new, carried.many), (old, new, 4))
        rows = [("1", "1"), ("2", "2"), ("2", "3"), ("3", "2")]
        self.assertEqual([row for row, _ in carried], rows)
        self.assertEqual([one.size for _, one in carried], [1, 2, 3, 2])
        self.assertEqual((carried["1"], carried["2"], carried["3"]), (("1",), ("2", "3"), ("2",)))
        self.assertEqual((carried.sure("1"), carried.sure("2"), carried.sure("3")), ("1", "", "2"))
        self.assertEqual((carried.example("2", "3").size, carried.example("2", "3").root), (3, "coat"))
        self.assertEqual(carried.kept(), ("1", "5"))
        self.assertTrue(("2", "3") in carried)
        for row in (("3", "3"), ("1",), ["1", "1"], ("1", "1", "1"), "11", None, (1, 1), (["1"], "1")):
            self.assertFalse(row in carried)

    def test_errors(self):
        carried = Carried(book_of(OLD), book_of(NEW))
        for name in ("4", "none", "", "9", None, 1, ["1"]):
            self.assertEqual(caught(lambda: carried[name]), ("NoRow", name))
            self.assertEqual(caught(lambda: carried.sure(name)), ("NoRow", name))
        self.assertEqual(caught(lambda: carried.example("3", "3")), ("NoRow", ("3", "3")))
        self.assertEqual(caught(lambda: carried.example("4", "1")), ("NoRow", ("4", "1")))
        self.assertEqual(caught(lambda: carried.example(["1"], "1")), ("NoRow", (["1"], "1")))
        text = "heading 1 is any\nrules"
        self.assertEqual(caught(lambda: Carried(book_of(text), book_of(text, wide_stock()))), ("OtherStock", 1))

    def test_back(self):
        carried = Carried(book_of(OLD), book_of(NEW))
        back = carried.back()
        self.assertEqual((back.old, back.new), (carried.new, carried.old))
        self.assertEqual([row for row, _ in back], [("1", "1"), ("2", "2"), ("2", "3"), ("3", "2")])
        self.assertEqual(back["2"], ("2", "3"))
        self.assertEqual(back, Carried(carried.new, carried.old))
        self.assertEqual(back.back(), carried)
        for (old, new), one in back:
            self.assertEqual((carried.new(one), carried.old(one)), (old, new))
            self.assertEqual(one.size, carried.example(new, old).size)

    def test_equal(self):
        first, second = Carried(book_of(OLD), book_of(NEW)), Carried(book_of(OLD), book_of(NEW.replace("parts 1", "not mix")))
        self.assertEqual(first, second)
        self.assertFalse(first == Carried(book_of(OLD), book_of(OLD)))
        self.assertFalse(first == list(first))

    def test_kept_by_both_or_neither(self):
        first = book_of("heading 1 is mix\nheading 2 is form coat\nheading 3 is form button\nrules")
        second = book_of("heading 3 is form button\nheading 2 is form coat and state worn\nheading 1 is mix\nrules")
        third = book_of("heading 4 is state whole\nheading 2 is state worn\nheading 1 is mix\nrules")
        self.assertEqual(Carried(first, second).kept(), ("1", "3"))
        self.assertEqual(Carried(first, third).kept(), ("1",))
        self.assertEqual(Carried(third, first).kept(), ("1",))
        self.assertEqual(Carried(second, first).kept(), ("3", "1"))

    def test_random_books(self):
        rng = fixed_random(71)
        for stock, nodes in ((STOCK, 4), (wide_stock(), 3), (twin_stock(), 4)):
            goods = goods_of(stock, nodes, 1, stock.lands[:1])
            for _ in range(15):
                first, second = book_from(stock, rng), book_from(stock, rng)
                if rng.random() < 0.6:
                    second = first.changed(notes=first.notes[1:], rules=["main", "last"])
                carried, slow = Carried(first, second), {}
                slows = slow_of(first), slow_of(second)
                for one in goods:
                    row = (slows[0].result(one.plain), slows[1].result(one.plain))
                    slow[row] = min(slow.get(row, 1000), one.size)
                told = {row: one for row, one in carried}
                self.assertEqual(list(told), sorted(told))
                for row, size in slow.items():
                    self.assertLessEqual(told[row].size, size)
                for row, one in told.items():
                    self.assertEqual((slows[0].result(one.plain), slows[1].result(one.plain)), row)


class GroupsTest(unittest.TestCase):
    def test_groups(self):
        self.assertEqual(groups(Carried(book_of(OLD), book_of(NEW))), ((("1",), ("1",)), (("2", "3"), ("2", "3"))))

    def test_joined_by_way_of_others(self):
        old = book_of("heading 1 is form coat\nheading 2 is form button\nheading 3 is mix\nrules")
        new = book_of("heading 1 is state worn or over 1/2 hair\nheading 2 is mix\nheading 3 is any\nrules first")
        self.assertEqual(groups(Carried(old, new)), ((("1", "2", "3"), ("1", "2", "3")),))
        new = book_of("heading x is each mix\nheading y is any\nheading z is none\nrules first")
        self.assertEqual(groups(Carried(old, new)), ((("1", "2", "3"), ("x", "y")),))
        new = book_of("heading x is form coat or mix\nheading y is any\nrules first")
        self.assertEqual(groups(Carried(old, new)), ((("1", "3"), ("x",)), (("2",), ("y",))))
        new = book_of("heading y is mix\nheading x is form button\nrules")
        self.assertEqual(groups(Carried(old, new)), ((("1",), ("none",)), (("2",), ("x",)), (("3",), ("y",))))

    def test_totals(self):
        book = book_of(OLD)
        goods = [good("mix far 3 hair"), good("coat worn far (mix far 2 hair, mix far 1 wool)"), good("mix far 4 wool")]
        self.assertEqual(list(totals(book, goods).items()), [("1", 7), ("2", 3)])
        self.assertEqual(list(totals(book, tuple(goods[::-1])).items()), [("1", 7), ("2", 3)])
        self.assertEqual(list(totals(book, [goods[2], goods[1], goods[0]]).items()), [("1", 7), ("2", 3)])
        self.assertEqual(list(totals(book, [goods[1], goods[0], goods[2]]).items()), [("1", 7), ("2", 3)])
        self.assertEqual(totals(book, []), {})
        strange = Good(wide_stock(), ("mix", "far", (("hair", 1),)))
        self.assertEqual(caught(lambda: totals(book, [*goods, strange, strange])), ("OtherStock", 4))
        self.assertEqual(caught(lambda: totals(book, [strange])), ("OtherStock", 1))

    def test_sums(self):
        parts = groups(Carried(book_of(OLD), book_of(NEW)))
        self.assertEqual(group_sums(parts, 0, {"3": 5, "1": 2, "2": 10 ** 50}), (2, 5 + 10 ** 50))
        self.assertEqual(group_sums(parts, 1, {"2": 5}), (0, 5))
        self.assertEqual(group_sums(parts, 1, {}), (0, 0))
        self.assertEqual(caught(lambda: group_sums(parts, 0, {"1": 1, "4": 2, "9": 3})), ("NoRow", "4"))
        carried = Carried(book_of(OLD), book_of(NEW.replace("heading 2 is parts 1", "heading 7 is parts 1")))
        parts = groups(carried)
        self.assertEqual(caught(lambda: group_sums(parts, 0, {"7": 1})), ("NoRow", "7"))
        self.assertEqual(group_sums(parts, 1, {"7": 1}), (0, 1))

    def test_random_groups(self):
        rng = fixed_random(72)
        for stock in (STOCK, wide_stock()):
            goods = goods_of(stock, 3, 2, stock.lands[:1])
            for _ in range(20):
                carried = Carried(book_from(stock, rng, 6, 2), book_from(stock, rng, 6, 2))
                parts = groups(carried)
                self.assertEqual(parts, tuple(sorted(parts)))
                self.assertEqual(sorted(name for part in parts for name in part[0]), sorted({row[0] for row, _ in carried}))
                self.assertEqual(sorted(name for part in parts for name in part[1]), sorted({row[1] for row, _ in carried}))
                some = rng.sample(goods, 20)
                sums = [group_sums(parts, side, totals(book, some)) for side, book in ((0, carried.old), (1, carried.new))]
                self.assertEqual(*sums)
                for olds, news in parts:
                    rows = [row for row, _ in carried if row[0] in olds]
                    self.assertEqual({row[1] for row in rows}, set(news))
                    self.assertEqual((list(olds), list(news)), (sorted(olds), sorted(news)))
                    # no smaller set of old results goes with as few new ones
                    for many in range(1, len(olds)):
                        for few in itertools.combinations(olds, many):
                            theirs = {row[1] for row in rows if row[0] in few}
                            self.assertTrue(theirs & {row[1] for row in rows if row[0] not in few})


class ChainTest(unittest.TestCase):
    BOOKS = ["heading 1 is mix and over 1/2 hair\nheading 2 is any\nrules first",
             "heading 1 is mix\nheading 2 is any\nrules first",
             "heading 1 is mix and over 1/2 hair\nheading 2 is any\nrules first"]

    def test_made(self):
        books = [book_of(text) for text in self.BOOKS]
        chain = Chain(*books)
        self.assertEqual(chain.books, tuple(books))
        self.assertEqual(chain(good("mix far 1 wool")), ("2", "1", "2"))
        for some in ([], books[:1], books * 2, books * 3):
            self.assertEqual(caught(lambda: Chain(*some)), ("BadNumber", len(some)))
        strange = book_of(self.BOOKS[0], wide_stock())
        self.assertEqual(caught(lambda: Chain(books[0], books[1], strange)), ("OtherStock", 2))
        self.assertEqual(caught(lambda: Chain(strange, books[1])), ("OtherStock", 1))
        self.assertEqual(caught(lambda: Chain(*books, strange, *books)), ("BadNumber", 7))
        self.assertEqual(caught(lambda: chain(Good(wide_stock(), ("mix", "far", (("hair", 1),))))), ("OtherStock", 1))

    def test_one_more(self):
        books = [book_of(text) for text in self.BOOKS]
        chain = Chain(*books[:2])
        self.assertEqual(((chain + books[2]).books, chain.books), (tuple(books), tuple(books[:2])))
        longest = Chain(*books, *books[:2])
        self.assertEqual(caught(lambda: longest + books[0]), ("BadNumber", 6))
        strange = book_of(self.BOOKS[0], wide_stock())
        self.assertEqual(caught(lambda: longest + strange), ("BadNumber", 6))
        self.assertEqual(caught(lambda: Chain(*books) + strange), ("OtherStock", 3))

    def test_courses_strays_and_lost_steps(self):
        chain = Chain(*[book_of(text) for text in self.BOOKS])
        courses = [("1", "1", "1"), ("1", "1", "2"), ("2", "1", "1"), ("2", "1", "2"), ("2", "2", "2")]
        self.assertEqual(list(chain.courses()), courses)
        self.assertEqual(chain.ends(), (("1", "1"), ("1", "2"), ("2", "1"), ("2", "2")))
        self.assertEqual(chain.strays(), (("1", "2"), ("2", "1")))
        self.assertEqual(chain.lost(), ((0, ("1", "1", "2")), (0, ("2", "1", "1"))))
        self.assertEqual(chain.straight(), Carried(chain.books[0], chain.books[2]))
        longer = chain + chain.books[1] + chain.books[2]
        lost = ((0, ("1", "1", "2")), (0, ("2", "1", "1")), (1, ("1", "2", "2")), (1, ("2", "2", "1")),
                (2, ("1", "1", "2")), (2, ("2", "1", "1")))
        self.assertEqual(longer.lost(), lost)
        self.assertEqual(longer.straight().old, chain.books[0])

    def test_two_books(self):
        chain = Chain(book_of(OLD), book_of(NEW))
        rows = [row for row, _ in Carried(book_of(OLD), book_of(NEW))]
        self.assertEqual((list(chain.courses()), list(chain.ends()), chain.strays(), chain.lost()), (rows, rows, (), ()))

    def test_random_chains(self):
        rng = fixed_random(73)
        strays = 0
        for stock, nodes in ((STOCK, 4), (wide_stock(), 3)):
            goods = goods_of(stock, nodes, 1, stock.lands[:1])
            for _ in range(15):
                books = [book_from(stock, rng, 4, 2) for _ in range(rng.randint(2, 4))]
                chain = Chain(*books)
                rows = {chain(one) for one in rng.sample(goods, 60)}
                tables = [[row for row, _ in Carried(*pair)] for pair in zip(books, books[1:])]
                courses = [(name,) for name in sorted({row[0] for row in tables[0]})]
                for table in tables:
                    courses = [(*course, row[1]) for course in courses for row in table if row[0] == course[-1]]
                self.assertEqual(list(chain.courses()), sorted(courses))
                self.assertTrue(rows <= set(courses))
                self.assertEqual(chain.ends(), tuple(sorted({(course[0], course[-1]) for course in courses})))
                straight = [row for row, _ in Carried(books[0], books[-1])]
                self.assertEqual(chain.strays(), tuple(row for row in chain.ends() if row not in straight))
                self.assertFalse({(row[0], row[-1]) for row in rows} & set(chain.strays()))
                strays += len(chain.strays())
                for number, row in chain.lost():
                    self.assertTrue(row[:2] in tables[number] and row[1:] in tables[number + 1])
                    self.assertFalse([one for one in rows if one[number:number + 3] == row])
                self.assertEqual(list(chain.lost()), sorted(chain.lost()))
        self.assertTrue(strays)


if __name__ == "__main__":
    unittest.main()
