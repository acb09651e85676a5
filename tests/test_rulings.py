"""Promise [28]: rulings over a book."""

import itertools
import unittest

from fallsunder.booktext import read_book
from fallsunder.goods import Good
from fallsunder.goodtext import read_good
from fallsunder.rulings import Rulings
from fallsunder.terms import Term
from fallsunder.termtext import read_term
from tests.samples import book_from, caught, fixed_random, goods_of, holds, random_term, slow_of, small_stock, wide_stock

STOCK = small_stock()
BOOK = read_book(STOCK, "heading 1 is parts 1\nheading 1a under 1 is form coat\nheading 1b under 1 is any\nheading 2 is mix\nrules first")
ANY, NONE, MIX = ("any",), ("none",), ("mix",)


def rulings_of(*rows, book=BOOK):
    return Rulings(book, [(read_term(text).plain, heading) for text, heading in rows])


def good(text):
    return read_good(STOCK, text)


class MadeTest(unittest.TestCase):
    def test_attributes(self):
        rows = [[MIX, "1a"], (("parts", 2), "2")]
        made = Rulings(BOOK, rows)
        rows[0][1] = "2"
        rows.append((ANY, "2"))
        self.assertEqual((made.book, made.rows, made.many), (BOOK, ((MIX, "1a"), (("parts", 2), "2")), 2))
        self.assertEqual((made[0], made[1], list(made)), ((MIX, "1a"), (("parts", 2), "2"), list(made.rows)))
        for number in (2, -1, True, "0", None, (0,)):
            found = caught(lambda: made[number])
            self.assertEqual((found, type(found[1])), (("BadRow", number), type(number)))
        self.assertEqual(made, Rulings(BOOK, made.rows))
        self.assertFalse(made == Rulings(BOOK, made.rows[:1]))
        self.assertFalse(made == Rulings(BOOK.changed(rules=["last"]), made.rows))
        self.assertFalse(made == made.rows)

    def test_errors(self):
        rows = [([], ("BadNumber", 0)), ([(ANY, "2")] * 8, ("BadNumber", 8)), ([(ANY, "1")], ("BadRow", 0)),
                ([(ANY, "2"), (ANY, "9")], ("BadRow", 1)), ([(ANY, "2"), (ANY,)], ("BadRow", 1)), ([(ANY, "2", 1)], ("BadRow", 0)),
                ([(ANY, "none")], ("BadRow", 0)), ([(ANY, ["2"])], ("BadRow", 0)), (["12"], ("BadRow", 0)),
                ([(("not", ("x",)), "2")], ("BadTerm", (0,))), ([(Term(ANY), "2")], ("BadTerm", ())),
                ([(["any"], "2")], ("BadTerm", ())), ([(("some", ("falls", "2")), "2")], ("BareFalls", "2")),
                ([(("falls", "9"), "2")], ("BareFalls", "9")), ([(("form", "ghost"), "2")], ("Unknown", "ghost")),
                ([(("and", ("form", "ghost"), ("falls", "2")), "2")], ("BareFalls", "2")),
                ([(("form", "hair"), "2")], ("Unknown", "hair")), ([(("x",), "9")], ("BadRow", 0)),
                ([(("form", "ghost"), "2"), (ANY, "9")], ("Unknown", "ghost"))]
        for passed, error in rows:
            self.assertEqual(caught(lambda: Rulings(BOOK, passed)), error, passed)
        for many in range(1, 8):
            self.assertEqual(len(Rulings(BOOK, [(ANY, "2")] * many).rows), many)

    def test_what_is_ruled(self):
        made = rulings_of(("some form button", "2"), ("over 1/2 hair and parts 1", "1b"), ("parts 2", "1a"))
        rows = [("mix far 1 hair", "2", -1), ("coat worn far (mix far 1 hair)", "1b", 1), ("coat worn far (mix far 1 wool)", "1a", -1),
                ("coat worn far (button worn far (mix far 1 hair))", "2", 0), ("coat worn far (mix far 1 wool, mix far 1 wool)", "1a", 2),
                ("coat worn far (mix far 5 hair, mix far 1 wool)", "1b", 1)]
        for text, result, number in rows:
            self.assertEqual((made(good(text)), made.decider(good(text))), (result, number), text)
        strange = Good(wide_stock(), ("mix", "far", (("hair", 1),)))
        self.assertEqual(caught(lambda: made(strange)), ("OtherStock", 1))
        self.assertEqual(caught(lambda: made.decider(strange)), ("OtherStock", 1))

    def test_parts_keep_their_results(self):
        book = BOOK.changed(notes=[("1b", "sends", ("some", ("falls", "2")), "2")])
        made = rulings_of(("mix", "1a"), book=book)
        self.assertEqual((made(good("mix far 1 hair")), made(good("button worn far (mix far 1 hair)"))), ("1a", "2"))

    def test_chosen(self):
        made = rulings_of(("mix", "2"), ("any", "1a"), ("none", "1b"))
        self.assertEqual(list(made.chosen([2, 0, 2])), [made[0], made[2]])
        self.assertEqual(list(made.chosen(())), [])
        for numbers, bad in [([0, 3], 3), ([True, 5], True), ([1, -1], -1), ([None], None)]:
            found = []
            self.assertEqual(caught(lambda: found.extend(made.chosen(numbers))), ("BadRow", bad))
            self.assertEqual(found, [])
        made.chosen([9])


class ToldTest(unittest.TestCase):
    def test_clashes(self):
        made = rulings_of(("mix", "2"), ("parts 1", "1a"), ("over 2/3 hair", "1a"), ("some parts 1", "1a"), ("any", "2"))
        self.assertEqual([row[:2] for row in made.clashes()], [(0, 2), (1, 4), (2, 4), (3, 4)])
        self.assertEqual([row[2].size for row in made.clashes()], [1, 2, 1, 3])
        one = rulings_of(("over 1/3 hair and over 1/3 wool and parts 2", "2"), ("from 1/2 hair and from 1/2 wool and each form button", "1a"))
        (first, second, shown), = one.clashes()
        self.assertEqual((first, second, shown.size, shown.many), (0, 1, 5, 2))
        self.assertEqual(shown.stuff().grams("hair"), shown.stuff().grams("wool"))
        self.assertEqual(list(rulings_of(("mix", "2"), ("not mix", "1a")).clashes()), [])

    def test_against(self):
        made = rulings_of(("mix", "2"), ("form coat", "1a"), ("state worn", "1b"), ("any", "1a"), ("any", "2"))
        self.assertEqual([(number, shown.size, shown.root) for number, shown in made.against()], [(3, 2, "button")])
        made = rulings_of(("parts 2", "1b"), ("parts 1 and not parts 2", "1a"), ("parts 1", "2"))
        self.assertEqual([(number, shown.size, shown.root) for number, shown in made.against()], [(0, 3, "coat"), (1, 2, "button")])

    def test_idle_and_fewest(self):
        made = rulings_of(("mix", "1a"), ("mix and over 1/2 hair", "1b"), ("form coat", "1a"), ("parts 1", "2"))
        self.assertEqual((made.idle(), made.fewest()), ((1,), (0, 2, 3)))
        twice = rulings_of(("mix", "1a"), ("each none", "1a"), ("parts 2", "1b"))
        self.assertEqual((twice.idle(), twice.fewest()), ((0, 1), (0, 2)))
        self.assertTrue(twice.says_same([2, 1]))
        self.assertFalse(twice.says_same([2]))
        self.assertTrue(twice.says_same((2, 0, 2, 0)))
        self.assertFalse(twice.says_same([]))
        free = rulings_of(("mix", "2"), ("none", "1a"))
        self.assertEqual((free.idle(), free.fewest(), free.says_same(())), ((0, 1), (), True))
        for numbers, bad in [([0, 3], 3), ([True], True), ([-1], -1), (["0"], "0")]:
            found = caught(lambda: twice.says_same(numbers))
            self.assertEqual((found, type(found[1])), (("BadRow", bad), type(bad)))

    def test_random_rulings(self):
        rng = fixed_random(63)
        for stock in (STOCK, wide_stock()):
            goods = goods_of(stock, 3, 2, stock.lands[:1])
            for _ in range(25):
                book = book_from(stock, rng, 4, 3)
                rows = [(random_term(stock, rng, 2), rng.choice(book.leaves)) for _ in range(rng.randint(1, 5))]
                self.hold_against_small_goods(book, rows, rng.sample(goods, 300 if len(goods) > 300 else len(goods)))

    def hold_against_small_goods(self, book, rows, goods):
        made, slow = Rulings(book, rows), slow_of(book)
        clashes, against = {row[:2]: row[2] for row in made.clashes()}, dict(made.against())
        self.assertEqual((list(clashes), list(against)), (sorted(clashes), sorted(against)))
        for (first, second), shown in clashes.items():
            self.assertTrue(rows[first][1] != rows[second][1] and first < second)
            self.assertTrue(holds(rows[first][0], shown.plain) and holds(rows[second][0], shown.plain))
        for number, shown in against.items():
            self.assertEqual(made.decider(shown), number)
            self.assertNotEqual(slow.result(shown.plain), rows[number][1])
        choices = [choice for many in range(len(rows) + 1) for choice in itertools.combinations(range(len(rows)), many)]
        same = [choice for choice in choices if made.says_same(choice)]
        self.assertEqual(made.fewest(), same[0])
        every = range(len(rows))
        self.assertEqual(made.idle(), tuple(k for k in every if tuple(n for n in every if n != k) in same))
        for one in goods:
            kept = [number for number, row in enumerate(rows) if holds(row[0], one.plain)]
            result = slow.result(one.plain)
            self.assertEqual((made.decider(one), made(one)), (kept[0], rows[kept[0]][1]) if kept else (-1, result))
            for pair in itertools.combinations(kept, 2):
                if rows[pair[0]][1] != rows[pair[1]][1]:
                    self.assertLessEqual(clashes[pair].size, one.size)
            if kept and rows[kept[0]][1] != result:
                self.assertLessEqual(against[kept[0]].size, one.size)
            for choice in same:
                left = [number for number in kept if number in choice]
                self.assertEqual(rows[left[0]][1] if left else result, made(one))


if __name__ == "__main__":
    unittest.main()
