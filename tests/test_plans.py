"""Promise [36]: plans, right plans, shallowest plans."""

import itertools
import unittest

from fallsunder.booktext import read_book
from fallsunder.errors import NoGood, Undecided
from fallsunder.goodtext import read_good
from fallsunder.opengoods import OpenGood
from fallsunder.plans import Plan, shallowest, wrong_at
from fallsunder.terms import Term
from fallsunder.termtext import read_term
from tests.samples import book_from, caught, fixed_random, goods_of, random_term, small_stock, twin_stock, wide_stock

STOCK = small_stock()
BOOK = read_book(STOCK, "heading 1 is mix\nheading 2 is form coat\nheading 3 is state worn\nheading 4 is any\nrules first")
ONE, TWO, THREE, FOUR = [("tells", name) for name in "1234"]
MIX = read_good(STOCK, "mix far 1 hair")
COAT = read_good(STOCK, "coat whole far (mix far 1 hair)")
WORN = read_good(STOCK, "button worn far (mix far 1 hair)")
WHOLE = read_good(STOCK, "button whole far (mix far 1 hair)")


def terms(*texts):
    return [read_term(text) for text in texts]


QUESTIONS = terms("mix", "form coat", "state worn")
RIGHT = ("asks", 0, ONE, ("asks", 1, TWO, ("asks", 2, THREE, FOUR)))


class PlanTest(unittest.TestCase):
    def test_what_a_plan_tells_and_asks(self):
        plan = Plan(RIGHT)
        rows = [(MIX, "1", (0,)), (COAT, "2", (0, 1)), (WORN, "3", (0, 1, 2)), (WHOLE, "4", (0, 1, 2))]
        for good, result, numbers in rows:
            self.assertEqual((plan(QUESTIONS, good), plan.asked(QUESTIONS, good)), (result, numbers))
        self.assertEqual(Plan(("tells", "")).plain, ("tells", ""))
        self.assertEqual(Plan(ONE)([], MIX), "1")
        self.assertEqual(Plan(ONE).asked([], MIX), ())
        twice = Plan(("asks", 0, ("asks", 0, ONE, TWO), ("asks", 0, THREE, FOUR)))
        self.assertEqual((twice(QUESTIONS, MIX), twice.asked(QUESTIONS, MIX)), ("1", (0, 0)))
        self.assertEqual((twice(QUESTIONS, COAT), twice.asked(tuple(QUESTIONS), COAT)), ("4", (0, 0)))

    def test_depth_and_equality(self):
        self.assertEqual([Plan(plain).deep for plain in (ONE, ("asks", 5, ONE, TWO), RIGHT)], [0, 1, 3])
        self.assertEqual(Plan(("asks", 5, RIGHT, TWO)).deep, 4)
        self.assertEqual(Plan(RIGHT), Plan(("asks", 0, ONE, RIGHT[3])))
        self.assertFalse(Plan(ONE) == Plan(TWO))
        self.assertFalse(Plan(ONE) == ONE)
        long = ONE
        for k in range(20):
            long = ("asks", k % 6, TWO, long) if k % 2 else ("asks", k % 6, long, TWO)
        self.assertEqual(Plan(long).deep, 20)

    def test_what_is_no_plan(self):
        bad = [None, (), [], "tells", ("tells",), ("tells", 1), ("tells", None), ("tells", "1", "2"), ["tells", "1"],
               ("told", "1"), ("asks", 0, ONE), ("asks", 0, ONE, TWO, THREE), ["asks", 0, ONE, TWO],
               ("asks", True, ONE, TWO), ("asks", False, ONE, TWO), ("asks", -1, ONE, TWO), ("asks", 6, ONE, TWO),
               ("asks", "0", ONE, TWO), ("asks", None, ONE, TWO), (1, 2), (("tells",), "1"), Plan(ONE)]
        for thing in bad:
            self.assertEqual(caught(lambda: Plan(thing)), ("BadPlan", ()), thing)
            deep = ("asks", 5, ("asks", 1, ONE, ("asks", 2, thing, TWO)), THREE)
            self.assertEqual(caught(lambda: Plan(deep)), ("BadPlan", (0, 1, 0)), thing)
        self.assertEqual(Plan(("asks", 5, ONE, TWO)).plain[1], 5)

    def test_the_first_bad_place(self):
        rows = [(("asks", 6, (), ()), ()), (("asks", 0, (), ()), (0,)), (("asks", 0, ONE, ()), (1,)),
                (("asks", 0, ("asks", 1, ONE, ()), ()), (0, 1)), (("asks", 0, ("asks", 9, (), ()), ()), (0,)),
                (("asks", 0, ("asks", 1, ("asks", 1, ONE, ()), ()), ("asks", 9, (), ())), (0, 0, 1)),
                (("asks", 0, ("asks", 1, ("asks", 1, ONE, TWO), ONE), ("asks", 9, (), ())), (1,)),
                (("asks", 0, ONE, ("asks", 1, ["tells", "1"], ("tells",))), (1, 0))]
        for plain, place in rows:
            self.assertEqual(caught(lambda: Plan(plain)), ("BadPlan", place))

    def test_questions_that_are_not_there(self):
        plan = Plan(("asks", 0, ("asks", 3, ONE, TWO), ("asks", 1, TWO, ("asks", 5, THREE, FOUR))))
        for call in (plan, plan.asked):
            self.assertEqual(caught(lambda: call(QUESTIONS, MIX)), ("BadRow", 3))
            self.assertEqual(caught(lambda: call(QUESTIONS, WORN)), ("BadRow", 5))
            self.assertEqual(caught(lambda: call([], MIX)), ("BadRow", 0))
            self.assertIn(call(QUESTIONS, COAT), ("2", (0, 1)))


class ShallowestTest(unittest.TestCase):
    def test_a_shallowest_plan(self):
        plan = shallowest(BOOK, QUESTIONS)
        self.assertEqual(plan.deep, 3)
        self.assertIsNone(wrong_at(plan, BOOK, QUESTIONS))
        more = QUESTIONS + terms("form coat or mix")
        plan = shallowest(BOOK, more)
        self.assertEqual(plan.deep, 2)
        self.assertIsNone(wrong_at(plan, BOOK, more))
        self.assertEqual(shallowest(BOOK, QUESTIONS, known=read_term("mix")).plain, ONE)

    def test_wrong_plans(self):
        self.assertIsNone(wrong_at(Plan(RIGHT), BOOK, QUESTIONS))
        self.assertIsNone(wrong_at(Plan(RIGHT), BOOK, QUESTIONS, known=None))
        wrong = Plan(("asks", 0, ONE, ("asks", 1, TWO, ("asks", 2, THREE, THREE))))
        good = wrong_at(wrong, BOOK, QUESTIONS)
        self.assertEqual((BOOK(good), wrong(QUESTIONS, good)), ("4", "3"))
        # where no good in question comes, it does not matter what is told
        self.assertIsNone(wrong_at(wrong, BOOK, QUESTIONS, known=read_term("not (form button and not state worn)")))
        odd = Plan(("asks", 0, ("asks", 1, ("tells", "x"), ONE), RIGHT[3]))
        self.assertIsNone(wrong_at(odd, BOOK, QUESTIONS))
        self.assertIsNone(wrong_at(Plan(TWO), BOOK, QUESTIONS, known=(BOOK, "2")))
        good = wrong_at(Plan(TWO), BOOK, QUESTIONS, known=(BOOK, "3"))
        self.assertEqual(BOOK(good), "3")
        part = OpenGood(STOCK, ("button", "open", "far", 0, (("open", ("any",)),)))
        good = wrong_at(Plan(THREE), BOOK, QUESTIONS, known=part)
        self.assertTrue(part(good) and BOOK(good) == "4")
        self.assertIsNone(wrong_at(Plan(("asks", 2, THREE, FOUR)), BOOK, QUESTIONS, known=part))

    def test_undecided(self):
        with self.assertRaises(Undecided) as found:
            shallowest(BOOK, QUESTIONS[:2])
        first, second = found.exception.first, found.exception.second
        self.assertEqual({BOOK(first), BOOK(second)}, {"3", "4"})
        self.assertEqual(shallowest(BOOK, QUESTIONS[:2], known=read_term("not form button")).deep, 1)

    def test_order_of_errors(self):
        strange = read_book(wide_stock(), "heading 1 is any\nrules")
        falls, ghost, none = read_term("some falls 1 and form ghost"), read_term("form ghost and any"), read_term("none")
        far = Plan(("asks", 1, ("asks", 4, ONE, TWO), ("asks", 3, ONE, TWO)))
        rows = [([], (strange, "1"), ("OtherStock", 2)), ([], falls, ("BadNumber", 0)),
                ([], OpenGood(wide_stock(), ("open", ("any",))), ("OtherStock", 2)),
                (QUESTIONS * 2 + QUESTIONS, None, ("BadNumber", 9)), ([falls, ghost], falls, ("BareFalls", "1")),
                ([ghost, falls], falls, ("Unknown", "ghost")), (QUESTIONS[:2], ghost, ("Unknown", "ghost")),
                (QUESTIONS[:2], falls, ("BareFalls", "1"))]
        for questions, known, error in rows:
            self.assertEqual(caught(lambda: shallowest(BOOK, questions, known=known)), error)
            self.assertEqual(caught(lambda: wrong_at(far, BOOK, questions, known=known)), error)
        self.assertEqual(caught(lambda: wrong_at(far, BOOK, QUESTIONS, known=none)), ("BadRow", 4))
        self.assertEqual(caught(lambda: wrong_at(far, BOOK, QUESTIONS[:1], known=none)), ("BadRow", 1))
        self.assertEqual(caught(lambda: wrong_at(Plan(ONE), BOOK, QUESTIONS, known=none))[0], "NoGood")
        for known in (none, (BOOK, "none"), (BOOK, "9")):
            with self.assertRaises(NoGood) as found:
                shallowest(BOOK, QUESTIONS, known=known)
            self.assertEqual(found.exception.known, known)

    def test_random_plans(self):
        rng = fixed_random(36)
        depths = set()
        for stock, nodes in ((STOCK, 4), (wide_stock(), 3), (twin_stock(), 4)):
            goods = goods_of(stock, nodes, 1, stock.lands[:1])
            for _ in range(20):
                book = book_from(stock, rng, 4, 2)
                questions = [Term(book[name][2]) for name in book] + [Term(row[2]) for row in book.notes
                                                                      if not Term(row[2]).falls]
                questions = questions[:6]
                other = book_from(stock, rng, 2, 1)
                known = rng.choice([None, None, Term(random_term(stock, rng, 2)), (other, rng.choice(other.leaves)),
                                    OpenGood(stock, ("open", random_term(stock, rng, 1)))])
                depths.add(self.hold(book, questions, known, goods))
        self.assertTrue({0, 1, 2, "undecided"} <= depths, depths)

    def hold(self, book, questions, known, goods):
        """A shallowest plan against a slow search through all plans for the rows that small goods show."""
        goods = [one for one in goods if known is None or (known[0](one) == known[1] if isinstance(known, tuple)
                                                           else known(one))]
        try:
            plan = shallowest(book, questions, known=known)
        except NoGood:
            self.assertEqual(goods, [])
            return "none"
        except Undecided as error:
            for term in questions:
                self.assertEqual(term(error.first), term(error.second))
            self.assertNotEqual(book(error.first), book(error.second))
            return "undecided"
        self.assertIsNone(wrong_at(plan, book, questions, known=known))
        rows = {}
        for one in goods:
            self.assertEqual(plan(questions, one), book(one))
            numbers = plan.asked(questions, one)
            self.assertEqual(len(set(numbers)), len(numbers))
            rows[tuple(term(one) for term in questions)] = book(one)
        # no plan is shallower for the goods that are there; wrong_at shows that the plan is right for all
        deepest = slow_depth(rows, range(len(questions)))
        self.assertGreaterEqual(plan.deep, deepest)
        if plan.deep > deepest:
            self.assertTrue(self.shallower_are_wrong(plan.deep - 1, book, questions, known, rows))
        return plan.deep

    def shallower_are_wrong(self, depth, book, questions, known, rows):
        """Are all plans of this depth that are right for small goods wrong at some other good?"""
        results = sorted(set(rows.values()) | set(book.leaves))
        plans = all_plans(depth, len(questions), results)
        return all(wrong_at(Plan(plain), book, questions, known=known) is not None
                   for plain in itertools.islice(plans, 400))


def slow_depth(rows, numbers):
    """The least depth of a plan that tells the results of these rows."""
    if len(set(rows.values())) <= 1:
        return 0
    best = 99
    for number in numbers:
        left = [k for k in numbers if k != number]
        sides = [{row: name for row, name in rows.items() if row[number] is truth} for truth in (True, False)]
        best = min(best, 1 + max(slow_depth(side, left) for side in sides))
    return best


def all_plans(depth, many, results):
    for name in results:
        yield ("tells", name)
    if depth > 0:
        for number in range(many):
            for yes in all_plans(depth - 1, many, results):
                for no in all_plans(depth - 1, many, results):
                    yield ("asks", number, yes, no)


if __name__ == "__main__":
    unittest.main()
