"""Promise [35]: goods in question, and the questions that settle a book for them."""

import itertools
import unittest

from fallsunder.asking import doubtful, fewest_questions
from fallsunder.booktext import read_book
from fallsunder.errors import NoGood, Undecided
from fallsunder.goodtext import read_good
from fallsunder.opengoods import OpenGood
from fallsunder.terms import Term
from fallsunder.termtext import read_term
from tests.samples import book_from, caught, fixed_random, goods_of, random_term, small_stock, twin_stock, wide_stock

STOCK = small_stock()
BOOK = read_book(STOCK, "heading 1 is mix\nheading 2 is form coat\nheading 3 is state worn\nheading 4 is any\nrules first")
HAIR = ("mix", "far", (("hair", 1),))


def terms(*texts):
    return [read_term(text) for text in texts]


class AskingTest(unittest.TestCase):
    QUESTIONS = terms("parts 2", "mix", "state worn", "some mix", "form coat", "form button and state worn")

    def test_all_goods(self):
        self.assertEqual(fewest_questions(BOOK, self.QUESTIONS), (1, 2, 4))
        self.assertEqual(fewest_questions(BOOK, self.QUESTIONS, known=None), (1, 2, 4))
        self.assertIsNone(doubtful(BOOK, self.QUESTIONS, [1, 5, 4]))
        self.assertIsNone(doubtful(BOOK, self.QUESTIONS, (5, 4, 1, 4, 0)))
        for choice in ([], [1, 2], [1, 4], [4, 5], [0, 2, 4]):
            first, second = doubtful(BOOK, self.QUESTIONS, choice)
            self.assertNotEqual(BOOK(first), BOOK(second))
            for number in choice:
                self.assertEqual(self.QUESTIONS[number](first), self.QUESTIONS[number](second))

    def test_what_is_known(self):
        self.assertEqual(fewest_questions(BOOK, self.QUESTIONS, known=read_term("not form coat and parts 1")), (2,))
        self.assertEqual(fewest_questions(BOOK, self.QUESTIONS, known=read_term("mix")), ())
        other = read_book(STOCK, "heading x is parts 2\nheading y is each mix\nheading z is any\nrules first")
        self.assertEqual(fewest_questions(BOOK, self.QUESTIONS, known=(other, "x")), ())
        self.assertEqual(fewest_questions(BOOK, self.QUESTIONS, known=(other, "z")), ())
        self.assertEqual(fewest_questions(BOOK, self.QUESTIONS, known=(other, "y")), (1, 2, 4))
        self.assertEqual(fewest_questions(BOOK, self.QUESTIONS, known=(BOOK, "3")), ())
        one = OpenGood(STOCK, ("button", "open", "far", 0, (("open", ("any",)),)))
        self.assertEqual(fewest_questions(BOOK, self.QUESTIONS, known=one), (2,))
        first, second = doubtful(BOOK, self.QUESTIONS, [0, 1, 3], known=one)
        self.assertTrue(one(first) and one(second) and {BOOK(first), BOOK(second)} == {"3", "4"})

    def test_undecided(self):
        questions = terms("mix", "parts 2")
        with self.assertRaises(Undecided) as found:
            fewest_questions(BOOK, questions)
        first, second = found.exception.first, found.exception.second
        self.assertNotEqual(BOOK(first), BOOK(second))
        self.assertEqual([term(first) for term in questions], [term(second) for term in questions])

    def test_no_good(self):
        none = read_term("mix and parts 1")
        empty = OpenGood(STOCK, ("button", "open", "far", 0, (("open", ("form", "coat")),)))
        for known in (none, (BOOK, "none"), (BOOK, "9"), empty):
            for call in (lambda: fewest_questions(BOOK, self.QUESTIONS, known=known),
                         lambda: doubtful(BOOK, self.QUESTIONS, [0], known=known)):
                with self.assertRaises(NoGood) as found:
                    call()
                self.assertEqual(found.exception.known, known)

    def test_order_of_errors(self):
        wide = wide_stock()
        strange = read_book(wide, "heading 1 is any\nrules")
        falls, ghost, none = read_term("some falls 1 and form ghost"), read_term("form ghost and any"), read_term("none")
        rows = [([], [9], (strange, "1"), ("OtherStock", 2)), ([], [9], OpenGood(wide, HAIR), ("OtherStock", 2)),
                ([], [9], falls, ("BadNumber", 0)), (self.QUESTIONS * 2, [], None, ("BadNumber", 12)),
                ([falls, ghost], [9], falls, ("BareFalls", "1")), ([ghost, falls], [9], falls, ("Unknown", "ghost")),
                (self.QUESTIONS[:2], [9], ghost, ("Unknown", "ghost")), (self.QUESTIONS[:2], [9], falls, ("BareFalls", "1")),
                (self.QUESTIONS[:2], [0, 2, 9], none, ("BadRow", 2)), (self.QUESTIONS[:2], [True], none, ("BadRow", True)),
                (self.QUESTIONS + terms("any"), [], None, ("BadNumber", 7)),
                (self.QUESTIONS[:2], [-1], None, ("BadRow", -1)), (self.QUESTIONS[:2], ["0"], None, ("BadRow", "0"))]
        for questions, choice, known, error in rows:
            found = caught(lambda: doubtful(BOOK, questions, choice, known=known))
            self.assertEqual((found, type(found[1])), (error, type(error[1])))
            if error[0] != "BadRow":
                self.assertEqual(caught(lambda: fewest_questions(BOOK, questions, known=known)), error)
        self.assertEqual(caught(lambda: doubtful(BOOK, self.QUESTIONS, [0, 1], known=none))[0], "NoGood")
        self.assertEqual(fewest_questions(BOOK, terms("mix"), known=read_term("mix or form coat")), (0,))
        self.assertIsNone(doubtful(BOOK, terms("mix"), [0], known=read_term("mix or form coat")))

    def test_parts_of_all_depths(self):
        book = read_book(wide_stock(), "heading 1 is some some mix\nheading 2 is any\nrules first")
        self.assertEqual(fewest_questions(book, terms("some mix", "some not each not mix", "mix")), (1,))

    def test_random_questions(self):
        rng = fixed_random(91)
        told = set()
        for stock, nodes in ((STOCK, 4), (wide_stock(), 3), (twin_stock(), 4)):
            goods = goods_of(stock, nodes, 1, stock.lands[:1])
            for _ in range(25):
                book = book_from(stock, rng, 3, 3)
                questions = [Term(random_term(stock, rng, 1)) for _ in range(rng.randint(1, 4))]
                questions += [Term(book[name][2]) for name in book.leaves[:2]]
                other = book_from(stock, rng, 2, 1)
                form = stock.forms[0][0]
                part = ("open", random_term(stock, rng, 1))
                least = stock.forms[0][1]
                known = rng.choice([None, Term(random_term(stock, rng, 2)), (other, rng.choice([*other.leaves, "none"])),
                                    OpenGood(stock, (form, "open", stock.lands[0], "open", (part,) * least))])
                told.add(self.hold(book, questions, known, rng.sample(goods, min(150, len(goods)))))
        self.assertTrue({"none", "undecided", 0, 1, 2} <= told, told)

    def in_question(self, known, one):
        if known is None:
            return True
        return known[0](one) == known[1] if isinstance(known, tuple) else known(one)

    def hold(self, book, questions, known, goods):
        """What is told agrees with small goods, and with itself; told is how many questions are needed."""
        goods = [one for one in goods if self.in_question(known, one)]
        try:
            fewest = fewest_questions(book, questions, known=known)
        except NoGood:
            self.assertEqual(goods, [])
            return "none"
        except Undecided as error:
            self.look_at(book, questions, range(len(questions)), known, (error.first, error.second))
            fewest = None
        settled = []
        for many in range(len(questions) + 1):
            for choice in itertools.combinations(range(len(questions)), many):
                pair = doubtful(book, questions, choice, known=known)
                if pair is None:
                    settled.append(choice)
                    rows = {}
                    for one in goods:
                        key = tuple(questions[number](one) for number in choice)
                        self.assertEqual(rows.setdefault(key, book(one)), book(one))
                else:
                    self.look_at(book, questions, choice, known, pair)
        self.assertEqual(fewest, settled[0] if settled else None)
        return len(fewest) if settled else "undecided"

    def look_at(self, book, questions, choice, known, pair):
        for one in pair:
            self.assertTrue(self.in_question(known, one))
        self.assertNotEqual(book(pair[0]), book(pair[1]))
        for number in choice:
            self.assertEqual(*[questions[number](one) for one in pair])

    def test_what_is_passed_stays(self):
        questions, choice = terms("mix", "parts 2"), [1, 0]
        doubtful(BOOK, questions, choice, known=(BOOK, "2"))
        self.assertEqual((questions, choice), (terms("mix", "parts 2"), [1, 0]))
        self.assertEqual(read_good(STOCK, "mix far 1 hair").plain, HAIR)


if __name__ == "__main__":
    unittest.main()
