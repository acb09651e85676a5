"""The whole program: the same things by way of texts, houses, journals and posts; multiples of goods; what is passed."""

import unittest

from fallsunder.alike import parting_good
from fallsunder.books import Book
from fallsunder.booktext import read_book, write_book
from fallsunder.buying import least_weight
from fallsunder.changes import least_change
from fallsunder.depths import alike_to, looking_depth, unlike_at
from fallsunder.errors import NoWay
from fallsunder.farthest import far_price
from fallsunder.firm import cheaper_good, least_joining
from fallsunder.freelots import granted
from fallsunder.goods import Good
from fallsunder.goodtext import read_good, write_good
from fallsunder.house import House
from fallsunder.journal import read_journal, write_journal
from fallsunder.judging import judge
from fallsunder.makings import Makings, origin_parting
from fallsunder.origins import OriginRule
from fallsunder.papers import kind_of
from fallsunder.plans import shallowest, wrong_at
from fallsunder.post import Post
from fallsunder.prices import Prices, price_table
from fallsunder.rates import Rates
from fallsunder.ratios import Ratio
from fallsunder.readings import Reading
from fallsunder.stocks import Stock
from fallsunder.terms import Term
from fallsunder.termtext import read_term, write_term
from fallsunder.ways import all_ways, cheapest
from tests.samples import book_from, fixed_random, goods_of, random_term, slow_of, small_stock, twin_stock, wide_stock

STOCKS = ((small_stock(), 4), (wide_stock(), 3), (twin_stock(), 4))


def price_of(book, good, heading, prices):
    try:
        return least_change(book, good, heading, prices).price
    except NoWay:
        return None


class WholeTest(unittest.TestCase):
    def test_by_way_of_texts_a_house_a_journal_and_a_post(self):
        rng = fixed_random(60)
        for stock, size in STOCKS:
            goods = goods_of(stock, size, 2)
            for _ in range(8):
                book = book_from(stock, rng, 4, 3)
                term = random_term(stock, rng, 2)
                some = rng.sample(goods, 6)
                names = ["abcdef"[k] for k in range(6)]
                deeds = [("edition", 1, book), ("ruling", 2, "r", 3, term, book.leaves[0]), ("lot", 2, "l", list(book)[0], 5)]
                deeds += [("enter", 2, name, one, "l") for name, one in zip(names, some)]
                deeds += [("enter", 3, name + "x", one, "") for name, one in zip(names, some)]
                house, post = House(stock), Post(stock, ["ann"])
                for number, deed in enumerate(deeds):
                    house.do(deed)
                    post.take("ann", number + 1, deed)
                again = read_journal(write_journal(house))
                self.assertEqual(again, post.house())
                for one in (house, again, post.house()):
                    self.hold(one, book, term, zip(names, some))
                    self.assertEqual([granted(one, name) for name in names], [granted(house, name) for name in names])

    def hold(self, house, book, term, rows):
        slow, told = slow_of(book), Term(term)
        again = read_book(book.stock, write_book(book))
        self.assertEqual(again, book)
        for name, one in rows:
            result = slow.result(one.plain)
            read = read_good(book.stock, write_good(one))
            self.assertEqual((book(one), again(read), house.edition_on(3)(one)), (result,) * 3)
            self.assertEqual((house.told(name + "x"), house.result_on(1, read)), (result, result))
            self.assertEqual(Reading(again, read), Reading(house.edition_on(2), one))
            ruled = read_term(write_term(told))(read)
            self.assertEqual(house.told(name), book.leaves[0] if ruled else result)

    def test_multiples(self):
        rng = fixed_random(61)
        for stock, size in STOCKS:
            goods = goods_of(stock, size, 2)
            for _ in range(6):
                book = book_from(stock, rng, 3, 3)
                rule = OriginRule(book, rng.choice([0, Ratio(1, 3), Ratio(1, 2)]))
                prices = Prices(rng.randint(0, 3), rng.randint(0, 3), rng.randint(0, 5))
                for one in rng.sample(goods, 3):
                    many = one * rng.choice([2, 3, 10 ** 60 + 7])
                    self.assertEqual(book(one), book(many))
                    self.assertEqual(kind_of(stock, [book], one), kind_of(stock, [book], many))
                    self.assertEqual(price_table(book, one, prices), price_table(book, many, prices))
                    for heading in book:
                        self.assertEqual(price_of(book, one, heading, prices), price_of(book, many, heading, prices))
                    for ask in (rule, rule.gained, rule.staying):
                        self.assertEqual(ask(one), ask(many))
                    times = many.weight // one.weight
                    for land in stock.lands:
                        grams, places = least_weight(rule, one, land)
                        self.assertEqual(least_weight(rule, many, land), (grams * times, places))
                    self.assertTrue(alike_to(one, many, 9))

    def test_goods_that_the_program_told_are_taken_again(self):
        rng = fixed_random(62)
        stock = wide_stock()
        prices = Prices(1, 1, 20)
        for _ in range(10):
            book = book_from(stock, rng, 3, 2)
            other = book_from(stock, rng, 3, 2)
            rates = Rates(book, [(name, Ratio(k)) for k, name in enumerate((*book.leaves, "none", "two", "ring"))],
                          joining=[(row[0], Ratio(0)) for row in stock.forms])
            told = [parting_good(book, other), judge(book).good, cheaper_good(rates)]
            told += list(unlike_at(book, 2) or ()) + [good for _, good in Makings(OriginRule(book, Ratio(1, 3)))][:4]
            for good in told:
                if good is not None:
                    again = read_good(stock, write_good(good))
                    self.assertEqual((again, book(again)), (good, book(good)))
                    self.assertFalse(rates.duty(good).less(cheapest(rates, good)[1]))
                    for heading in list(book)[:1]:
                        price_of(book, good, heading, prices)

    def test_answers_hang_on_nothing_but_what_is_said(self):
        """Books of equal parts and stocks of equal parts give equal answers, asked in any order and again."""
        rng = fixed_random(63)
        for stock, size in STOCKS:
            book = book_from(stock, rng, 3, 2)
            copy = Book(type(stock)(stock.stuffs, stock.states, stock.lands, stock.forms), book.headings,
                        notes=book.notes, rules=book.rules)
            questions = [Term(row[2]) for row in book.headings][:6]
            first, second = OriginRule(book), OriginRule(copy)
            for _ in range(2):
                self.assertEqual(Makings(first), Makings(second))
                self.assertIsNone(origin_parting(first, second))
                self.assertEqual(looking_depth(book), looking_depth(copy))
                for leaf in book.leaves:
                    for heading in book:
                        one = far_price(book, leaf, heading, Prices())
                        other = far_price(copy, leaf, heading, Prices())
                        self.assertEqual(one and (one[0], one[1].size), other and (other[0], other[1].size))
                try:
                    plan = shallowest(book, questions)
                except ValueError:
                    self.assertRaises(ValueError, shallowest, copy, questions)
                else:
                    self.assertIsNone(wrong_at(plan, copy, questions))
                    self.assertEqual(shallowest(copy, questions).deep, plan.deep)

    def test_goods_that_are_very_deep(self):
        """Goods of the program may be deeper than those that are passed; nothing goes down into them step by step."""
        stock = Stock(["a", "b"], ["s", "t"], ["l", "k"], [("p", 1, 2, ["p", "mix"])])
        plain = ("mix", "l", (("a", 3),))
        for k in range(600):
            plain = ("p", "s" if k % 3 else "t", "l" if k % 2 else "k", (plain, ("mix", "k", (("b", 1),))))
        deep = Good(stock, plain)
        book = read_book(stock, "heading 1 is state s\nheading 2 is any\nnote 1 shuts some (not mix and not falls 1)\n"
                                "rules first")
        change = least_change(book, deep, "1", Prices(1, 1, 1000))
        self.assertEqual((change.price, len(change.deeds), book(change.after)), (200, 200, "1"))
        self.assertEqual(len(price_table(book, deep, Prices(1, 1, 10))), 1201)
        rule = OriginRule(book, Ratio(1, 3))
        self.assertEqual((rule(deep), rule.gained(deep)), ("l", True))
        self.assertEqual(least_weight(rule, deep, "l"), (0, ()))
        rates = Rates(book, [(name, Ratio(k + 1)) for k, name in enumerate(("1", "2", "none", "two", "ring"))],
                      joining=[("p", Ratio(1, 7))], finishing=Ratio(1, 2))
        way, price = cheapest(rates, deep)
        self.assertEqual((way.costs(rates, deep), way), (price, way))
        self.assertTrue(alike_to(deep, deep * 5, 10 ** 9))
        self.assertEqual([way.costs(rates, deep).less(price) for _, way in zip(range(4), all_ways(rates, deep))], [False] * 4)
        house = House(stock)
        house.do(("edition", 1, book))
        house.do(("enter", 1, "a", deep, ""))
        self.assertEqual((read_journal(write_journal(house)), house.copy()), (house, house))

    def test_nothing_that_is_passed_is_changed(self):
        stock = small_stock()
        headings = [["1", "", ("mix",)], ["2", "", ("any",)]]
        book = Book(stock, headings, rules=["first"])
        rows = [["1", Ratio(1)], ["2", Ratio(2)], ["none", Ratio(0)], ["two", Ratio(0)], ["ring", Ratio(0)]]
        joining, zones = [["coat", Ratio(1)], ["button", Ratio(1)]], [["far"], []]
        kept = repr((headings, [row[0] for row in rows], [row[0] for row in joining], zones))
        rates = Rates(book, rows, joining=joining)
        rule = OriginRule(book, zones=zones)
        one = Good(stock, ("coat", "worn", "far", (("mix", "far", (("hair", 3),)),)))
        plain = repr(one.plain)
        for _ in range(2):
            answers = [book(one), rule(one), str(rates.duty(one)), str(least_joining(rates)), len(list(Makings(rule))),
                       least_weight(rule, one, "far"), price_of(book, one, "1", Prices()), str(cheapest(rates, one)[1])]
            self.assertEqual(answers, ["2", "far", "6", "1", 2, (0, ()), None, "6"])
        self.assertEqual(repr((headings, [row[0] for row in rows], [row[0] for row in joining], zones)), kept)
        self.assertEqual(repr(one.plain), plain)
        for row in (headings, rows, joining, zones):
            row.clear()
        self.assertEqual([book(one), rule(one), str(rates.duty(one))], ["2", "far", "6"])


if __name__ == "__main__":
    unittest.main()
