"""Promise [32]: deeds, new editions, and the fewest deeds."""

import itertools
import unittest

from fallsunder.booktext import read_book
from fallsunder.carried import Carried
from fallsunder.deeds import amended, fewest_deeds, moved
from fallsunder.goods import Good
from fallsunder.goodtext import read_good
from fallsunder.terms import Term
from tests.samples import book_from, caught, fixed_random, goods_of, random_term, small_stock, wide_stock

STOCK = small_stock()
BOOK = read_book(STOCK, "heading 1 is mix\nheading 2 is parts 1\nheading 2a under 2 is form coat\nheading 2b under 2 is any\n"
                        "note 1 shuts none\nnote 2a takes state worn\nnote 1 shuts none\nrules first")
NONE, MIX, ANY = ("none",), ("mix",), ("any",)
SHUT = ("1", "shuts", NONE, "")


def good(text):
    return read_good(STOCK, text)


class AmendedTest(unittest.TestCase):
    def test_each_deed(self):
        self.assertEqual(amended(BOOK, []), BOOK)
        self.assertEqual(amended(BOOK, [("strike", SHUT)]).notes, (BOOK.notes[1], SHUT))
        self.assertEqual(amended(BOOK, [["strike", list(SHUT)]]).notes, (BOOK.notes[1], SHUT))
        self.assertEqual(amended(BOOK, [("strike", SHUT), ("strike", SHUT), ("strike", SHUT)]).notes, (BOOK.notes[1],))
        for note in (("1", "shuts", ANY, ""), "note", None, ("1", "shuts", NONE), ("1", "shuts", ["none"], ""), 5, []):
            self.assertEqual(amended(BOOK, (("strike", note),)), BOOK)
        put = ["2a", "sends", ("some", ("falls", "1")), "2b"]
        made = amended(BOOK, [("put", put)])
        self.assertEqual(made.notes, (*BOOK.notes, tuple(put)))
        put[0] = "2b"
        self.assertEqual(made.notes[3][0], "2a")
        made = amended(BOOK, [("term", "2", ("state", "worn"))])
        self.assertEqual((made["2"], made["1"], made.notes), (("2", "", ("state", "worn")), BOOK["1"], BOOK.notes))
        self.assertEqual(amended(BOOK, [["rules", ["last", "main"]]]).rules, ("last", "main"))
        self.assertEqual(len(BOOK.notes), 3)

    def test_one_after_another(self):
        note = ("2b", "takes", MIX, "")
        deeds = [("put", note), ("strike", note), ("put", SHUT), ("strike", SHUT), ("term", "1", ANY), ("term", "1", NONE)]
        made = amended(BOOK, deeds)
        self.assertEqual((made.notes, made["1"]), ((BOOK.notes[1], SHUT, SHUT), ("1", "", NONE)))

    def test_numbers_that_are_truths(self):
        book = BOOK.changed(notes=[("1", "shuts", ("parts", 1), "")])
        self.assertEqual(amended(book, [("strike", ("1", "shuts", ("parts", True), ""))]), book)
        self.assertEqual(amended(book, [("strike", ("1", "shuts", ("parts", 1), ""))]).notes, ())

    def test_errors(self):
        rows = [([("strike",)], ("BadDeed", 0)), ([("put", SHUT, 1)], ("BadDeed", 0)), (["put"], ("BadDeed", 0)), ([()], ("BadDeed", 0)),
                ([("other", 1)], ("BadDeed", 0)), ([(1, SHUT)], ("BadDeed", 0)), ([(["put"], SHUT)], ("BadDeed", 0)),
                ([("term", "9", ("x",))], ("BadDeed", 0)), ([("term", ["1"], ANY)], ("BadDeed", 0)), ([("term", "1")], ("BadDeed", 0)),
                ([("rules", []), ("rules",)], ("BadDeed", 1)), ([None], ("BadDeed", 0)),
                ([("term", "1", ("x",))], ("BadTerm", ())), ([("term", "1", Term(ANY))], ("BadTerm", ())),
                ([("term", "1", ("some", ("falls", "1")))], ("BareFalls", "1")), ([("term", "1", ("form", "ghost"))], ("Unknown", "ghost")),
                ([("put", ("9", "takes", ANY, ""))], ("BadNote", 3)), ([("put", ("2", "sends", ANY, "1"))], ("BadNote", 3)),
                ([("put", ("1", "takes", ("falls", "1"), ""))], ("BareFalls", "1")), ([("put", SHUT[:3])], ("BadBook", "notes")),
                ([("put", ("1", "takes", ("some", ("falls", "9")), ""))], ("Unknown", "9")), ([("put", "note")], ("BadBook", "notes")),
                ([("rules", ["first", "first"])], ("Twice", "first")), ([("rules", ["other"])], ("BadRule", "other")),
                ([("rules", "first")], ("BadBook", "rules")), ([("rules", None)], ("BadBook", "rules")),
                ([("put", SHUT)] * 14, ("BadBook", "notes")),
                ([("term", "1", ("x",)), ("other",)], ("BadTerm", ())), ([("other",), ("term", "1", ("x",))], ("BadDeed", 0)),
                ([("put", ("1", "takes", ("form", "ghost"), "")), ("term", "9", ANY)], ("Unknown", "ghost"))]
        for deeds, error in rows:
            self.assertEqual(caught(lambda: amended(BOOK, deeds)), error, deeds)
            if len(deeds) <= 7:
                self.assertEqual(caught(lambda: fewest_deeds(BOOK, deeds, good("mix far 1 hair"))), error, deeds)
                self.assertEqual(caught(lambda: list(moved(BOOK, deeds))), error, deeds)


class FewestTest(unittest.TestCase):
    def test_some_alone_give_the_result(self):
        deeds = [("rules", ["last"]), ("put", ("2a", "takes", ANY, "")), ("term", "2a", NONE), ("rules", ["first"]),
                 ("put", ("2a", "sends", ("state", "whole"), "2b"))]
        rows = [("mix far 1 hair", ()), ("button worn far (mix far 1 hair)", ()), ("coat worn far (mix far 1 hair)", ()),
                ("coat whole far (mix far 1 hair)", (0,)), ("button whole far (mix far 1 hair)", ())]
        for text, numbers in rows:
            self.assertEqual(fewest_deeds(BOOK, deeds, good(text)), numbers, text)
        deeds = [("term", "2a", NONE), ("term", "2b", NONE), ("put", ("2b", "takes", ("parts", 2), ""))]
        rows = [("coat whole far (mix far 1 hair)", (0, 1)), ("coat whole far (mix far 1 hair, mix far 1 wool)", (0,)),
                ("button whole far (mix far 1 hair)", (1,)), ("mix far 1 hair", ())]
        for text, numbers in rows:
            self.assertEqual(fewest_deeds(BOOK, deeds, good(text)), numbers, text)

    def test_errors_in_order(self):
        strange = Good(wide_stock(), ("mix", "far", (("hair", 1),)))
        eight = [("other",)] * 8
        self.assertEqual(caught(lambda: fewest_deeds(BOOK, eight, strange)), ("BadNumber", 8))
        self.assertEqual(caught(lambda: fewest_deeds(BOOK, eight[1:], strange)), ("OtherStock", 2))
        self.assertEqual(caught(lambda: fewest_deeds(BOOK, eight[1:], good("mix far 1 hair"))), ("BadDeed", 0))
        self.assertEqual(caught(lambda: list(moved(BOOK, eight))), ("BadNumber", 8))
        self.assertEqual(caught(lambda: list(moved(BOOK, eight[1:]))), ("BadDeed", 0))
        self.assertEqual(amended(BOOK, [("rules", ["main"])] * 9).rules, ("main",))
        moved(BOOK, eight)

    def test_moved(self):
        deeds = [("term", "2a", ("state", "worn")), ("put", ("1", "shuts", ("over", "hair", 1, 2), "")), ("rules", [])]
        rows = list(moved(BOOK, deeds))
        told = [(old, new, one.size, numbers) for old, new, one, numbers in rows]
        self.assertEqual(told, [("1", "none", 1, (1,)), ("2a", "2b", 2, (0,)), ("2a", "two", 2, (2,))])
        self.assertEqual(list(moved(BOOK, [("strike", SHUT)])), [])
        # a strike and a put in its place: the note that is put alone would be one too many
        full = BOOK.changed(notes=[SHUT] * 16)
        swap = [("strike", SHUT), ("put", ("1", "shuts", MIX, ""))]
        self.assertEqual([row[3] for row in moved(full, swap)], [(0, 1)])

    def test_deeds_that_are_changed_meanwhile(self):
        deeds = [["term", "2a", ("state", "worn")], ["put", ["1", "shuts", ("over", "hair", 1, 2), ""]], ["rules", []]]
        told = [row[:2] + row[3:] for row in moved(BOOK, deeds)]
        rows = moved(BOOK, deeds)
        some = [next(rows)]
        deeds[2][1].append("last")
        deeds[1][1][0] = "9"
        deeds[0][1] = "2b"
        deeds.clear()
        self.assertEqual([row[:2] + row[3:] for row in [*some, *rows]], told)

    def test_random_deeds(self):
        rng = fixed_random(74)
        for stock in (STOCK, wide_stock()):
            goods = goods_of(stock, 3, 1, stock.lands[:1])
            for _ in range(20):
                book = book_from(stock, rng, 4, 3)
                deeds = self.some_deeds(stock, rng, book)
                new = amended(book, deeds)
                changed = {(old, result): (one, numbers) for old, result, one, numbers in moved(book, deeds)}
                table = Carried(book, new)
                self.assertEqual(list(changed), [row for row, _ in table if row[0] != row[1]])
                for (old, result), (one, numbers) in changed.items():
                    self.assertEqual((book(one), new(one), one.size), (old, result, table.example(old, result).size))
                    self.assertEqual(numbers, self.slow_fewest(book, deeds, one))
                for one in rng.sample(goods, 8):
                    self.assertEqual(fewest_deeds(book, deeds, one), self.slow_fewest(book, deeds, one))

    def some_deeds(self, stock, rng, book):
        names = tuple(book)
        out = []
        for _ in range(rng.randint(1, 5)):
            word = rng.choice(["strike", "put", "put", "term", "rules"])
            if word == "strike":
                out.append((word, rng.choice(book.notes) if book.notes else ("x", "takes", ANY, "")))
            elif word == "put":
                out.append((word, (rng.choice(names), rng.choice(["takes", "shuts"]), random_term(stock, rng, 2, names), "")))
            elif word == "term":
                out.append((word, rng.choice(names), random_term(stock, rng, 2)))
            else:
                out.append((word, rng.sample(["special", "main", "first", "last"], rng.randint(0, 3))))
        return out

    def slow_fewest(self, book, deeds, one):
        result = amended(book, deeds)(one)
        for many in range(len(deeds) + 1):
            for numbers in itertools.combinations(range(len(deeds)), many):
                if amended(book, [deeds[k] for k in numbers])(one) == result:
                    return numbers
        return None


if __name__ == "__main__":
    unittest.main()
