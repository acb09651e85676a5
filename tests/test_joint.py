"""Promises [1], [13] and [14]: rows of answers, joints, claims."""

import unittest

from fallsunder.books import Book
from fallsunder.claims import always, implied, never, parting, relation
from fallsunder.errors import BadNumber, BareFalls, NoRow, OtherStock, Unknown
from fallsunder.goods import Good
from fallsunder.joint import Joint
from fallsunder.stocks import Stock
from fallsunder.terms import Term
from fallsunder.termtext import read_term
from tests.samples import all_goods, fixed_random, holds, plain_size, random_book, random_term, small_stock
from tests.samples import twin_stock, wide_stock

STOCK = small_stock()
GOODS = all_goods(STOCK, 4)
BOOK = Book(STOCK, [("1", "", ("form", "coat")), ("2", "", ("mix",))], notes=[("2", "takes", ("main", ("falls", "1")), "")])


def leasts(stock, watchers, plains):
    """The rows that some goods give, with the fewest nodes."""
    out = {}
    for plain in plains:
        good = Good(stock, plain)
        row = tuple(watcher(good) for watcher in watchers)
        out[row] = min(out.get(row, 99), plain_size(plain))
    return out


def most_grams(plain):
    if plain[0] == "mix":
        return max(grams for _, grams in plain[2])
    return max(most_grams(part) for part in plain[3])


class JointTest(unittest.TestCase):
    def check(self, stock, watchers, plains):
        joint = Joint(stock, watchers)
        found = leasts(stock, watchers, plains)
        for row, size in found.items():
            self.assertIn(row, joint)
            self.assertEqual(joint[row].size, size)
        for row, good in joint:
            self.assertEqual(Good(stock, good.plain), good)
            self.assertEqual(tuple(watcher(good) for watcher in watchers), row)
            self.assertEqual(joint.answers(good), row)
            self.assertTrue(row in found or good.size > 4 or most_grams(good.plain) > 2, (row, good.plain))
        self.assertEqual([row for row, _ in joint], sorted(row for row, _ in joint))
        self.assertEqual(joint.many, len(list(joint)))
        return joint

    def test_random_terms(self):
        rng = fixed_random(7)
        for _ in range(25):
            terms = [Term(random_term(STOCK, rng, rng.randint(1, 3))) for _ in range(rng.randint(1, 3))]
            self.check(STOCK, terms, GOODS)

    def test_terms_and_books(self):
        rng = fixed_random(8)
        for _ in range(12):
            books = []
            for _ in range(rng.randint(1, 2)):
                headings, notes, rules = random_book(STOCK, rng, 4, 3, 1)
                books.append(Book(STOCK, headings, notes=notes, rules=rules))
            self.check(STOCK, [Term(random_term(STOCK, rng, 2)), *books], GOODS)

    def test_forms_that_take_the_same(self):
        rng = fixed_random(18)
        stock = twin_stock()
        plains = rng.sample(all_goods(stock, 5, 1), 700) + all_goods(stock, 3, 2)
        for _ in range(10):
            headings, notes, rules = random_book(stock, rng, 4, 3, 1)
            watchers = [Term(random_term(stock, rng, 3)), Book(stock, headings, notes=notes, rules=rules)]
            joint = Joint(stock, watchers)
            for row, size in leasts(stock, watchers, plains).items():
                self.assertLessEqual(joint[row].size, size)
            for row, good in joint:
                self.assertEqual(tuple(watcher(good) for watcher in watchers), row)

    def test_rows(self):
        joint = Joint(STOCK, (read_term("mix"), BOOK))
        self.assertEqual([row for row, _ in joint], [(False, "1"), (False, "none"), (True, "2")])
        self.assertEqual([good.size for _, good in joint], [2, 2, 1])
        self.assertEqual(joint[(True, "2")].root, "mix")
        for row in ((True, "1"), (1, "2"), [True, "2"], (True,), (True, "2", "2"), None, "12", (True, ["2"]), ("2", True)):
            self.assertFalse(row in joint)
            with self.assertRaises(NoRow) as caught:
                joint[row]
            self.assertEqual(caught.exception.row, row)

    def test_least_goods_are_found_far_off(self):
        nested = "some (form coat and some (form coat and each (state worn and some mix)))"
        stock = wide_stock()
        good = Joint(stock, [read_term(nested)])[(True,)]
        self.assertEqual((good.size, read_term(nested)(good)), (5, True))
        many = read_term("parts 3 and each (form button and parts 2) and main over 1/2 horn and some over 1/2 wool")
        self.assertEqual(never(stock, many).size, 10)
        self.assertTrue(many(never(stock, many)))

    def test_books_that_count(self):
        stock = Stock(["a"], ["s"], ["l"], [("box", 1, 1, ["mix", "box"])])
        books = []
        for many in (7, 6, 5):
            headings = [("h0", "", ("mix",))] + [(f"h{k}", "", ("none",)) for k in range(1, many)]
            notes = [(f"h{k}", "takes", ("main", ("falls", f"h{(k - 1) % many}")), "") for k in range(many)]
            books.append(Book(stock, headings, notes=notes))
        joint = Joint(stock, books)
        self.assertEqual(joint.many, 210)
        self.assertEqual(sorted(good.depth for _, good in joint), list(range(1, 211)))
        for row, good in joint:
            self.assertEqual(row, tuple(f"h{(good.depth - 1) % many}" for many in (7, 6, 5)))

    def test_many_parts_and_shares(self):
        stock = Stock(list("abcde"), ["s", "t"], ["l"], [(form, 4, 4, ["mix", *"uvwxyz"]) for form in "uvwxyz"])
        joint = Joint(stock, [read_term(f"over 1/3 {stuff}") for stuff in "abcde"]
                      + [read_term("some form u and some form v and some form w and some form x")])
        self.assertEqual(joint.many, 2 * (1 + 5 + 10))
        self.assertEqual({good.size for row, good in joint if row[5]}, {21})

    def test_where(self):
        joint = Joint(STOCK, [read_term("mix"), BOOK])
        self.assertEqual([row for row, _ in joint.where(0, False)], [(False, "1"), (False, "none")])
        self.assertEqual(list(joint.where(1, "2")), [((True, "2"), joint[(True, "2")])])
        self.assertEqual(list(joint.where(1, "3")), [])
        self.assertEqual([list(joint.where(*asked)) for asked in ((0, 0), (2, "2"), (True, "2"), (-1, "2"))], [[]] * 4)

    def test_equal(self):
        one = Joint(STOCK, [read_term("mix")])
        self.assertTrue(one == Joint(wide_stock(), [read_term("not parts 1")]))
        self.assertFalse(one == Joint(STOCK, [read_term("any")]) or one == [((False,), 1)] or one == None)  # noqa: E711

    def test_errors(self):
        mix, falls, bad = read_term("mix"), read_term("form x and some falls 1"), read_term("mix or form wool and state y")
        other = Book(wide_stock(), [("1", "", ("mix",))])
        for watchers in ([], [mix] * 9, ()):
            with self.assertRaises(BadNumber) as caught:
                Joint(STOCK, watchers)
            self.assertEqual(caught.exception.number, len(watchers))
        Joint(STOCK, [mix] * 8)
        rows = [([mix, other, falls], OtherStock, "number", 1), ([falls, other], BareFalls, "heading", "1"),
                ([bad, falls], Unknown, "name", "wool"), ([mix, bad, other], Unknown, "name", "wool"),
                ([read_term("falls b or falls a")], BareFalls, "heading", "b")]
        for watchers, kind, attribute, told in rows:
            with self.assertRaises(kind) as caught:
                Joint(STOCK, watchers)
            self.assertEqual(getattr(caught.exception, attribute), told)
        with self.assertRaises(BadNumber):
            Joint(STOCK, [other] * 9)
        with self.assertRaises(OtherStock) as caught:
            Joint(STOCK, [mix]).answers(Good(wide_stock(), ("mix", "far", (("wool", 1),))))
        self.assertEqual(caught.exception.number, 1)

    def test_copies(self):
        watchers = [read_term("mix")]
        joint = Joint(STOCK, watchers)
        watchers.append(BOOK)
        self.assertEqual(joint.answers(Good(STOCK, GOODS[0])), (True,))
        self.assertEqual(len(watchers), 2)


class ClaimsTest(unittest.TestCase):
    def test_words(self):
        rows = [("mix", "not parts 1", "alike"), ("none", "mix and form coat", "alike"), ("none", "mix", "narrower"),
                ("mix", "any", "narrower"), ("any", "mix", "wider"), ("mix", "none", "wider"), ("mix", "form coat", "apart"),
                ("form coat", "state worn", "across"), ("form coat", "parts 1", "narrower"),
                ("over 1/2 wool", "from 1/2 wool", "narrower"), ("over 1/2 wool", "from 1/2 hair", "apart"),
                ("from 1/2 wool", "not over 1/2 hair", "alike"), ("main mix", "some mix", "narrower"),
                ("parts 2", "form coat", "narrower"), ("each none", "mix", "alike"), ("form button", "each mix", "narrower")]
        for first, second, word in rows:
            with self.subTest(first=first, second=second):
                self.assertEqual(relation(STOCK, read_term(first), read_term(second)), word)

    def test_random_terms(self):
        rng = fixed_random(9)
        for _ in range(40):
            first, second = [Term(random_term(STOCK, rng, 2)) for _ in range(2)]
            rows = leasts(STOCK, [first, second], GOODS)
            for call, wanted in ((implied, [(True, False)]), (parting, [(True, False), (False, True)])):
                good = call(STOCK, first, second)
                sizes = [rows[row] for row in wanted if row in rows]
                self.assertEqual(good.size if good else None, min(sizes) if sizes else None)
                if good:
                    self.assertIn((first(good), second(good)), wanted)
            for call, truth in ((always, False), (never, True)):
                good = call(STOCK, first)
                sizes = [size for row, size in rows.items() if row[0] is truth]
                self.assertEqual(good.size if good else None, min(sizes) if sizes else None)
                self.assertTrue(good is None or first(good) is truth)
            told = relation(STOCK, first, second)
            both = {row: row in rows for row in ((True, True), (True, False), (False, True))}
            if not both[True, False]:
                self.assertEqual(told, "narrower" if both[False, True] else "alike")
            else:
                self.assertEqual(told, "wider" if not both[False, True] else "across" if both[True, True] else "apart")

    def test_claims_that_hold(self):
        self.assertIsNone(always(STOCK, read_term("mix or form coat or form button")))
        self.assertIsNone(always(STOCK, read_term("mix or main any")))
        self.assertIsNone(never(STOCK, read_term("some some some mix and each parts 2")))
        self.assertIsNone(implied(STOCK, read_term("each over 1/2 wool and not mix"), read_term("over 1/2 wool")))
        self.assertIsNone(parting(STOCK, read_term("not main mix"), read_term("mix or main not mix")))
        self.assertEqual(always(STOCK, read_term("mix")).size, 2)
        self.assertEqual(never(STOCK, read_term("some some mix")).size, 3)

    def test_shares_at_bounds(self):
        good = never(STOCK, read_term("from 2/3 wool and not over 2/3 wool"))
        self.assertEqual((good.grams("wool"), good.grams("hair")), (2, 1))
        good = never(STOCK, read_term("parts 2 and some (over 18/19 wool and not from 19/20 wool) and main from 1/1 hair"))
        self.assertEqual(good.size, 3)

    def test_errors(self):
        mix, falls, bad = read_term("mix"), read_term("form x or falls h"), read_term("form x")
        for call in (always, never):
            with self.assertRaises(BareFalls) as caught:
                call(STOCK, falls)
            self.assertEqual(caught.exception.heading, "h")
            with self.assertRaises(Unknown):
                call(STOCK, bad)
        for call in (implied, parting, relation):
            for first, second, kind in ((falls, bad, BareFalls), (bad, falls, Unknown), (mix, bad, Unknown),
                                        (mix, falls, BareFalls)):
                with self.assertRaises(kind):
                    call(STOCK, first, second)


class DeepTest(unittest.TestCase):
    def test_sizes_far_apart(self):
        stock = Stock(["hair", "wool"], ["s"], ["l"], [("box", 3, 3, ["mix", "box"])])
        text = "main (mix and from 1/1 hair) and some (mix and from 1/1 wool) and some form box"
        self.assertEqual(never(stock, read_term(text)).size, 7)
        inner = "form box and some form box"
        text = f"main (mix and from 1/1 hair) and some (form box and each mix) and some ({inner} and main mix)"
        self.assertEqual(never(stock, read_term(text)).size, 13)
        stock = Stock(["hair", "wool"], ["s"], ["l"], [("box", 4, 4, ["mix", "box"])])
        text = f"main (mix and from 1/1 hair) and some (mix and from 1/1 wool) and some (form box and each mix) and some ({inner})"
        self.assertEqual(never(stock, read_term(text)).size, 1 + 1 + 1 + 5 + 9)

    def test_main_parts_are_made_the_heaviest(self):
        stock = wide_stock()
        light, heavy = "from 1/1 hair", "over 18/19 wool and not from 19/20 wool"
        good = never(stock, read_term(f"main ({light} and mix) and some (mix and {heavy})"))
        self.assertEqual((good.size, good[(good.main,)].grams("hair")), (3, good[(good.main,)].weight))
        inner = f"form coat and main ({light}) and some ({heavy})"
        good = never(stock, read_term(f"form coat and parts 3 and main (mix and {light}) and some ({inner})"))
        self.assertTrue(good.size == 6 and good[(good.main,)].root == "mix")
        self.assertLess(good.weight, 1000)

    def test_large_terms(self):
        rng = fixed_random(16)
        stock = wide_stock()
        goods = [Good(stock, plain) for plain in rng.sample(all_goods(stock, 3, 1, ["far"]), 40)]
        for _ in range(8):
            term = Term(random_term(stock, rng, 7))
            self.assertIsNone(always(stock, term | ~term))
            self.assertEqual(relation(stock, term, ~~term), "alike")
            self.assertIn(relation(stock, term & read_term("parts 2"), term), ("narrower", "alike"))
            joint = Joint(stock, [term, read_term("some mix")])
            for good in goods:
                self.assertIn((term(good), good.many > 0 and any(part.root == "mix" for part in good)), joint)

    def test_deep_looks(self):
        stock = Stock(["a", "b"], ["s", "t"], ["l"], [("box", 1, 2, ["mix", "box"])])
        plain = ("and", ("state", "t"), ("over", "a", 1, 2))
        for k in range(14):
            plain = ("some", ("and", ("state", "st"[k % 2]), plain)) if k % 3 else ("each", ("and", ("parts", 1), plain))
        good = never(stock, Term(plain))
        self.assertEqual((good.depth, Term(plain)(good)), (16, True))
        chain = ("mix",)
        for word in ("some", "each", "main") * 9:
            chain = (word, chain)
        self.assertEqual(always(stock, Term(chain)).size, 1)
        self.assertEqual(never(stock, Term(("and", ("not", ("mix",)), chain))).size, 2)
        self.assertIsNone(never(stock, Term(("and", chain, ("not", chain)))))

    def test_alike_terms_in_other_words(self):
        rows = [("from 0/1 wool", "any"), ("over 1/1 wool", "none"), ("parts 1", "not mix"), ("some any", "parts 1"),
                ("each none", "mix"), ("some none", "none"), ("each any", "any"), ("main any", "not mix"),
                ("main over 1/2 wool", "parts 1 and over 1/2 wool"), ("some not mix", "not each mix"),
                ("each not mix", "not some mix"), ("main not mix", "parts 1 and not main mix"), ("mix and mix", "mix"),
                ("mix or not mix", "any"), ("not mix and mix", "none"), ("any and mix", "mix"), ("mix or none", "mix"),
                ("not not mix", "mix"), ("some (mix and any)", "some mix"), ("mix or parts 1", "any")]
        for first, second in rows:
            one, other = read_term(first), read_term(second)
            self.assertEqual(relation(STOCK, one, other), "alike")
            for plain in GOODS[::7]:
                self.assertEqual(holds(one.plain, plain), holds(other.plain, plain))
            self.assertTrue(all(row[0] == row[1] for row, _ in Joint(STOCK, [one, other, one])))

    def test_claims_hold_of_what_grams_are(self):
        rng = fixed_random(10)
        for _ in range(20):
            plain = random_term(STOCK, rng, 4)
            good = never(STOCK, Term(plain))
            if good is not None:
                self.assertTrue(holds(plain, (good * 10 ** 30).plain))


if __name__ == "__main__":
    unittest.main()
