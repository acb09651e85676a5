"""Promises [22], [24] and [27]: sound books, struck notes, alike books, needless notes."""

import itertools
import unittest

from fallsunder.alike import alike, parting_good
from fallsunder.books import RESULTS, Book
from fallsunder.booktext import read_book
from fallsunder.goods import Good
from fallsunder.judging import faults, fewest_struck, judge, unused
from fallsunder.readings import Reading
from fallsunder.thinning import needless, struck, thinned
from tests.samples import all_goods, book_from, caught, fixed_random, plain_size, random_term, slow_of, small_stock, twin_stock
from tests.samples import wide_stock

STOCK = small_stock()


def book_of(text):
    return read_book(STOCK, text)


def by_results(book, nodes):
    """The sizes of least goods among all small ones by their results, told slowly."""
    slow, out = slow_of(book), {}
    for plain in all_goods(book.stock, nodes, 1, book.stock.lands[:1]):
        result = slow.result(plain)
        out[result] = min(out.get(result, 1000), plain_size(plain))
    return out


class JudgeTest(unittest.TestCase):
    def test_sound(self):
        verdict = judge(book_of("heading 1 is mix\nheading 2 is parts 1\nrules"))
        self.assertEqual((verdict.fault, verdict.good, verdict.leaves_told, bool(verdict)), ("", None, (), True))
        self.assertEqual(list(faults(book_of("heading 1 is any\nrules"))), [])

    def test_each_fault(self):
        verdict = judge(book_of("heading 1 is parts 2 or mix\nheading 2 is mix and over 1/2 hair\nheading 3 is parts 1\nrules first"))
        self.assertTrue(verdict)
        verdict = judge(book_of("heading 1 is mix\nheading 2 is form coat\nrules"))
        self.assertEqual((verdict.fault, verdict.good.root, verdict.good.size, verdict.leaves_told, bool(verdict)),
                         ("none", "button", 2, (), False))
        verdict = judge(book_of("heading 1 is mix\nheading 2 is any\nheading 3 is some form button\nrules"))
        self.assertEqual((verdict.fault, verdict.good.size, verdict.leaves_told), ("two", 1, ("1", "2")))
        text = "heading 1 is any\nheading 2 is none\nheading 3 is none\nnote 1 sends 2 if some some any\n" \
               "note 2 sends 3 if any\nnote 3 sends 2 if any\nrules"
        verdict = judge(book_of(text))
        self.assertEqual((verdict.fault, verdict.good.size, verdict.leaves_told), ("ring", 3, ("2", "3")))

    def test_several_faults(self):
        text = "heading 1 is mix and over 1/2 hair\nheading 2 is parts 2\nheading 3 is parts 2 or form button\n" \
               "note 3 sends 1 if state worn\nnote 1 sends 3 if parts 1\nrules main"
        book = book_of(text)
        found = list(faults(book))
        self.assertEqual([row[0] for row in found], ["none", "two", "ring"])
        self.assertEqual([row[1].size for row in found], [1, 3, 2])
        self.assertEqual([row[2] for row in found], [(), ("2", "3"), ("3", "1")])
        self.assertEqual([book(row[1]) for row in found], ["none", "two", "ring"])
        self.assertEqual(judge(book).fault, "none")
        self.assertEqual([judge(book).good.size, judge(book).leaves_told], [1, ()])

    def test_the_leaves_of_two_are_those_left(self):
        text = "heading 1 is any\nheading 2 is parts 1\nheading 3 is mix\nheading 4 is mix\nheading 5 is parts 1\nrules special"
        self.assertEqual(judge(book_of(text)).leaves_told, ("3", "4"))
        self.assertEqual(judge(book_of(text.replace("rules special", "rules main special"))).leaves_told, ("3", "4"))
        text = "heading 1 is mix\nheading 2 is mix\nheading 3 is any\nheading 4 is main mix\nheading 5 is main mix\nrules special main"
        self.assertEqual(judge(book_of(text)).leaves_told, ("1", "2"))

    def test_unused(self):
        text = "heading 1 is any\nheading 1a under 1 is parts 3\nheading 2 is mix\nheading 3 is some mix\nheading 1b under 1 is any\n" \
               "note 2 sends 3 if any\nrules first"
        self.assertEqual(unused(book_of(text)), ("1a", "2"))
        self.assertEqual(unused(book_of("heading 1 is any\nrules")), ())

    def test_random_books(self):
        rng = fixed_random(51)
        for stock, nodes in ((STOCK, 4), (wide_stock(), 3), (twin_stock(), 4)):
            for _ in range(25):
                book = book_from(stock, rng)
                slow = by_results(book, nodes)
                found = {row[0]: row for row in faults(book)}
                self.assertEqual(list(found), [fault for fault in RESULTS if fault in found])
                for fault in RESULTS:
                    if fault in slow:
                        # a smaller one may need more grams than the slow search has
                        self.assertLessEqual(found[fault][1].size, slow[fault])
                for fault, good, leaves in found.values():
                    reading = Reading(book, good)
                    self.assertEqual(reading.result, fault)
                    left = reading.steps[-1][1] if reading.steps else reading.fits
                    self.assertEqual(leaves, {"none": (), "two": left, "ring": reading.ring()}[fault])
                verdict = judge(book)
                self.assertEqual(bool(verdict), not found)
                if found:
                    self.assertEqual(verdict.good.size, min(row[1].size for row in found.values()))
                    self.assertEqual(book(verdict.good), verdict.fault)
                self.assertFalse([leaf for leaf in unused(book) if leaf in slow])


class StruckTest(unittest.TestCase):
    def test_sound_and_hopeless(self):
        self.assertEqual(fewest_struck(book_of("heading 1 is any\nnote 1 shuts none\nrules")), ())
        self.assertIsNone(fewest_struck(book_of("heading 1 is mix\nnote 1 shuts mix\nrules")))

    def test_fewest_and_first(self):
        text = "heading 1 is any\nheading 2 is none\nnote 1 takes mix\nnote 2 takes mix\nnote 1 sends 2 if any\n" \
               "note 2 sends 1 if state worn\nnote 2 sends 1 if state whole\nrules first"
        self.assertEqual(fewest_struck(book_of(text)), (2,))
        text = "heading 1 is any\nheading 2 is none\nnote 2 takes parts 2\nnote 1 sends 2 if mix\nnote 2 takes parts 3\n" \
               "note 2 sends 1 if any\nrules"
        self.assertEqual(fewest_struck(book_of(text)), (0, 1))
        self.assertEqual(fewest_struck(book_of(text.replace("parts 3", "some mix"))), (0, 1, 2))

    def test_all_choices(self):
        rng = fixed_random(52)
        told = []
        for stock in (STOCK, twin_stock()):
            for _ in range(60):
                book = book_from(stock, rng, 4, 6)
                if rng.random() < 0.6:
                    book = book.changed(headings=[*book.headings, ("z", "", ("any",))], rules=rng.choice([("first",), ("main", "last")]))
                told.append(fewest_struck(book))
                self.assertEqual(told[-1], self.slow_fewest(book))
        self.assertTrue(any(told) and None in told and () in told)

    def test_all_choices_of_books_that_are_sound_without_notes(self):
        rng = fixed_random(55)
        told = set()
        for stock in (STOCK, twin_stock()):
            stuff = stock.stuffs[0]
            headings = [("1", "", ("over", stuff, 1, 2)), ("2", "", ("some", ("over", stuff, 1, 3))), ("3", "", ("any",))]
            for _ in range(60):
                notes = []
                for _ in range(rng.randint(2, 5)):
                    share = (rng.choice(["over", "from"]), rng.choice(stock.stuffs), *rng.choice([(1, 2), (1, 3), (0, 1), (1, 1)]))
                    under = ("and", ("falls", rng.choice("123")), share)
                    term = rng.choice([share, ("not", share), (rng.choice(["some", "each", "main"]), rng.choice([under, share])),
                                       ("not", (rng.choice(["some", "each", "main"]), under)), random_term(stock, rng, 2, ("1", "2"))])
                    word = rng.choice(["shuts", "sends", "sends"])
                    pair = rng.sample("123", 2)
                    notes.append((pair[0] if word == "sends" else "3", word, term, pair[1] if word == "sends" else ""))
                book = Book(stock, headings, notes=notes, rules=rng.choice([["first"], ["main", "first"]]))
                fewest = fewest_struck(book)
                self.assertEqual(fewest, self.slow_fewest(book))
                told.add(fewest)
        self.assertTrue({(), (0,), (1,), (0, 1)} <= told, told)

    def slow_fewest(self, book):
        many = len(book.notes)
        for length in range(many + 1):
            for numbers in itertools.combinations(range(many), length):
                if judge(struck(book, numbers)):
                    return numbers
        return None

    def test_results_of_main_parts(self):
        text = "heading 1 is any\nheading 2 is parts 1\nnote 1 sends 2 if state worn\nnote 2 sends 1 if any\nrules main"
        for words in ("", " main", " first", " last", " main first"):
            book = book_of(text.replace(" main", words))
            self.assertEqual(fewest_struck(book), self.slow_fewest(book), words)
        self.assertEqual(fewest_struck(book_of(text)), (0,))
        text = "heading 1 is mix\nheading 2 is parts 1\nheading 3 is state worn\nnote 3 takes mix\nnote 2 shuts main falls 3\nrules main"
        self.assertIsNone(fewest_struck(book_of(text)))
        self.assertEqual(fewest_struck(book_of(text.replace("is state worn", "is none"))), (0,))

    def test_notes_that_never_matter_are_left(self):
        stock = wide_stock()
        notes = ["1 shuts over 1/2 hair and over 1/2 wool", "1 shuts from 1/2 hair and from 1/2 wool and over 0/1 horn",
                 "1 takes some mix or each not mix", "1 shuts each mix and some not mix", "1 takes main falls 1 or mix or main not falls 1",
                 "1 shuts each mix and each not mix and parts 1", "1 takes mix or some mix or some not mix", "1 shuts mix and main any", "1 shuts mix and some any", "2 takes some falls 2 and each not falls 2",
                 "1 takes some falls 1 or each not falls 1", "1 shuts some falls 1 and each not falls 1"]
        for fault in ("over 1/2 horn", "mix", "parts 1", "parts 2", "main parts 1", "over 1/2 hair and parts 1", "some mix"):
            for note in notes:
                # a note that takes all goods is the only one that does
                word = "none" if note.startswith("1 takes") else "any"
                text = f"heading 1 is {word}\nheading 2 is none\nnote {note}\n"
                self.assertEqual(fewest_struck(read_book(stock, text + f"note 1 shuts {fault}\nrules")), (1,), (note, fault))
                self.assertEqual(fewest_struck(read_book(stock, text + f"note 2 takes {fault}\nrules")), (1,), (note, fault))

    def test_sixteen_notes(self):
        notes = [("1", "sends", ("parts", 1), "2")] + [("2", "sends", ("parts", 1), "1")] * 13 + [("1", "shuts", ("mix",), "")] * 2
        book = Book(STOCK, [("1", "", ("any",)), ("2", "", ("none",))], notes=notes)
        self.assertEqual(fewest_struck(book), (0, 14, 15))
        notes = [("1", "takes", ("some", ("falls", "2")), "")] * 15 + [("2", "takes", ("mix",), "")]
        book = Book(STOCK, [("1", "", ("none",)), ("2", "", ("none",))], notes=notes)
        self.assertIsNone(fewest_struck(book))


class AlikeTest(unittest.TestCase):
    def test_other_words_and_the_same_results(self):
        first = book_of("heading 1 is some mix\nheading 2 is any\nrules first")
        second = book_of("heading 1 is not each not mix\nheading 2 is not some mix\nnote 1 shuts mix\nrules")
        self.assertIsNone(parting_good(first, second))
        self.assertIs(alike(first, second), True)
        self.assertIsNone(parting_good(first, first))
        third = book_of("heading 2 is any\nheading 1 is some mix\nrules last")
        self.assertTrue(alike(first, third))
        fourth = book_of("heading 1 is some mix\nheading 3 is any\nrules first")
        self.assertEqual(parting_good(first, fourth).size, 1)
        self.assertFalse(alike(first, fourth))

    def test_least_good(self):
        first = book_of("heading 1 is any\nheading 2 is none\nrules")
        second = book_of("heading 1 is any\nheading 2 is main main mix and parts 2\nrules last")
        good = parting_good(first, second)
        self.assertEqual((good.size, first(good), second(good)), (4, "1", "2"))

    def test_random_books(self):
        rng = fixed_random(53)
        for stock, nodes in ((STOCK, 4), (wide_stock(), 3)):
            plains = all_goods(stock, nodes, 1, stock.lands[:1])
            for _ in range(30):
                first = book_from(stock, rng, 4, 4)
                second = first.changed(notes=first.notes[1:]) if rng.random() < 0.7 else first.changed(rules=("main", "last"))
                slows = (slow_of(first), slow_of(second))
                apart = [plain_size(plain) for plain in plains if slows[0].result(plain) != slows[1].result(plain)]
                good = parting_good(first, second)
                self.assertEqual(alike(first, second), good is None)
                if apart:
                    self.assertLessEqual(good.size, min(apart))
                if good is not None:
                    self.assertNotEqual(first(good), second(good))

    def test_other_stock(self):
        text = "heading 1 is any\nrules"
        for call in (parting_good, alike):
            self.assertEqual(caught(lambda: call(book_of(text), read_book(wide_stock(), text))), ("OtherStock", 1))
        twin = small_stock()
        self.assertTrue(alike(book_of(text), read_book(twin, text)))


class ThinTest(unittest.TestCase):
    PAIR = "heading 1 is parts 1\nheading 2 is none\nnote 2 takes mix\nnote 1 shuts none\nnote 2 takes not parts 1\nrules first"

    def test_needless_only_while_the_other_is_there(self):
        book = book_of(self.PAIR)
        self.assertEqual(needless(book), (0, 1, 2))
        thin = thinned(book)
        self.assertEqual(thin.notes, (("2", "takes", ("not", ("parts", 1)), ""),))
        self.assertEqual((needless(thin), thinned(thin)), ((), thin))
        self.assertEqual((thin.headings, thin.rules), (book.headings, book.rules))
        self.assertEqual(len(book.notes), 3)

    def test_what_is_needless_behind_the_strike_of_a_later_note(self):
        book = book_of("heading 1 is mix\nheading 2 is not mix\nnote 2 shuts mix\nnote 2 takes mix\nrules")
        self.assertEqual(needless(book), (1,))
        self.assertEqual(thinned(book).notes, ())

    def test_struck(self):
        book = book_of(self.PAIR)
        self.assertEqual(struck(book, []), book)
        self.assertEqual(struck(book, (2, 0, 2)).notes, (book.notes[1],))
        self.assertEqual(struck(book, [0, 1, 2]).notes, ())
        for numbers, bad in [([3], 3), ([0, True, 9], True), ([-1], -1), ([0, "1"], "1"), ([None, 3], None), ([False], False)]:
            found = caught(lambda: struck(book, numbers))
            self.assertEqual((found, type(found[1])), (("BadRow", bad), type(bad)))

    def test_random_books(self):
        rng = fixed_random(54)
        for stock in (STOCK, wide_stock()):
            for _ in range(30):
                book = book_from(stock, rng, 4, 6)
                free = [number for number in range(len(book.notes)) if alike(book, struck(book, [number]))]
                self.assertEqual(needless(book), tuple(free))
                slow = book
                while needless(slow):
                    slow = struck(slow, needless(slow)[:1])
                self.assertEqual(thinned(book), slow)
                self.assertTrue(alike(book, slow))


if __name__ == "__main__":
    unittest.main()
