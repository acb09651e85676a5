"""Promise [52]: journals."""

import unittest

from fallsunder.booktext import write_book
from fallsunder.goodtext import read_good, write_good, write_stock
from fallsunder.house import House
from fallsunder.journal import read_journal, write_journal
from fallsunder.terms import Term
from fallsunder.termtext import read_term, write_term
from tests.samples import book_from, caught, fixed_random, goods_of, random_term, small_stock, wide_stock
from tests.test_house import DEEDS, MIX, OLD, STOCK, house_of

STOCK_TEXT = "stock 5\nstuffs hair wool\nstates worn whole\nlands far\nform coat 1 2 mix button\nform button 1 1 mix"
BOOK_TEXT = "heading 1 is mix\nheading 2 is form coat\nheading 3 is any\nrules first"
LINES = ["edition 3 4\n" + BOOK_TEXT, "ruling 4 a 9 3 if over 0/1 hair", "lot 5 l 3 7",
         "enter 5 e l is button worn far (mix far 2 hair)", "lift 6 a",
         "enter 6 f - is button worn far (mix far 2 hair)",
         "edition 7 4\nheading 1 is mix\nheading 2 is state worn\nheading 4 is any\nrules first",
         "enter 7 g l is coat whole far (mix far 2 hair)"]
DIGITS = "1" + "0" * 299


def told(text):
    return caught(lambda: read_journal(text))


def behind(line):
    """What is told of a line behind a stock and an edition, which have 11 lines."""
    return told("\n".join([STOCK_TEXT, LINES[0], line]))


class WriteTest(unittest.TestCase):
    def test_each_kind_of_line(self):
        house = House(STOCK)
        self.assertEqual(write_journal(house), STOCK_TEXT)
        text = STOCK_TEXT
        for deed, line in zip(DEEDS, LINES):
            house.do(deed)
            text = f"{text}\n{line}"
            self.assertEqual(write_journal(house), text)
            again = read_journal(text)
            self.assertEqual((again, again.many), (house, house.many))
            self.assertEqual(write_journal(again), text)
        self.assertEqual(read_journal(STOCK_TEXT).stock, STOCK)
        self.assertEqual([again.told(name) for name in "efg"], ["3", "3", "4"])
        for _ in DEEDS:
            again.undo()
        self.assertEqual(again, House(STOCK))

    def test_odd_values(self):
        house = house_of([("edition", 0, OLD), ("ruling", 10 ** 9, "is", None, ("or", ("any",), ("mix",)), "if"),
                          ("ruling", 10 ** 9, "if", 10 ** 299, ("some", ("not", ("mix",))), "heading"),
                          ("lot", 10 ** 9, "lot", "9z", 10 ** 299), ("enter", 10 ** 9, "enter", MIX * 10 ** 90, "lot")])
        text = write_journal(house)
        self.assertIn("ruling 1000000000 is - if if any or mix\n", text)
        self.assertIn(f"ruling 1000000000 if {DIGITS} heading if some not mix\n", text)
        self.assertEqual(read_journal(text), house)

    def test_random_houses(self):
        rng = fixed_random(52)
        for stock in (small_stock(), wide_stock()):
            goods = goods_of(stock, 3, 2)
            for _ in range(20):
                house = House(stock)
                house.do(("edition", 0, book_from(stock, rng, 4, 4)))
                for k in range(12):
                    name = "abcdefghijkl"[k]
                    deed = rng.choice([("edition", k, book_from(stock, rng, 4, 4)),
                                       ("ruling", k, name, rng.choice([None, k + 3]), random_term(stock, rng, 3), "h1"),
                                       ("lot", k, name, "h0", rng.randint(1, 9)),
                                       ("enter", k, name, rng.choice(goods), ""), ("lift", k, "a")])
                    caught(lambda: house.do(deed))
                text = write_journal(house)
                self.assertEqual(read_journal(text), house)
                self.cut_everywhere(text, list(house.standing()), stock)

    def cut_everywhere(self, text, deeds, stock):
        """A text that is cut behind a deed is the journal of the house behind it; cut elsewhere it is bad."""
        lines = text.split("\n")
        ends = {}
        for many in range(len(deeds) + 1):
            ends[len(write_journal(house_of(deeds[:many], stock)).split("\n"))] = many
        for k in range(1, len(lines) + 1):
            part = "\n".join(lines[:k])
            if k in ends:
                self.assertEqual(read_journal(part), house_of(deeds[:ends[k]], stock))
            else:
                self.assertEqual(told(part), ("BadLine", k, 0))


class BadLineTest(unittest.TestCase):
    def test_the_stock(self):
        rows = [("", (0, 0)), ("stocks 5", (0, 0)), ("stock", (0, 1)), ("stock ", (0, 1)), ("stock 3", (0, 1)),
                ("stock 10", (0, 1)), ("stock 05", (0, 1)), ("stock -5", (0, 1)), ("stock x", (0, 1)),
                ("stock 5 x", (0, 2)), ("stock 5 ", (0, 2)), ("stock 5,", (0, 2)), ("(stock 5", (0, 0)), (" stock 5", (0, 0)),
                ("stock 5", (1, 0)), ("stock 9", (1, 0)), ("stock 5\n", (1, 0)), ("stock 5\nstuffs", (1, 1)),
                ("stock 5\nstuff a", (1, 0)), ("stock 5\nstuffs a\nstates any", (2, 1)), ("stock 5\nstuffs a,", (1, 1)),
                ("stock 5\nstuffs a\nstates b\nlands c", (4, 0)), ("stock 4\nstuffs a\nstates b\nlands c\nforms d", (4, 0)),
                ("stock 4\nstuffs a\nstates b\nlands c\nform d 1 2", (4, 4)),
                ("stock 4\nstuffs a\nstates b\nlands c\nform d 0 2 mix", (4, 2)), ("enter 1 a - is mix far 1 hair", (0, 0)),
                ("stock 5\nstuffs a\nstates b\nlands c\nform d 1 2 mix", (5, 0)),
                ("stock 5\nstuffs a\nstates b\nlands c\nform d 1 2 mix\nlift 1 a", (5, 0)),
                ("stock " + DIGITS, (0, 1)), ("stock " + DIGITS + "0", (0, 1))]
        for text, place in rows:
            self.assertEqual(told(text), ("BadLine", *place), text)
        self.assertEqual(told("stock 4\nstuffs a\nstates b\nlands c\nform a 1 1 mix\nx"), ("Twice", "a"))
        self.assertEqual(told("stock 4\nstuffs a\nstates b\nlands c\nform d 2 1 mix\nx"), ("BadStock", "forms"))
        self.assertEqual(told("stock 4\nstuffs a\nstates b\nlands c\nform d 1 1 e\nx"), ("Unknown", "e"))
        self.assertEqual(told("stock 4\nstuffs a\nstates b\nlands c\nform d 1 1 mix\nx"), ("BadLine", 5, 0))

    def test_first_words(self):
        for line in ("", " ", "x", "close 4", "stock 5", "heading 1 is any", "rules first", "Edition 3 4", "(lift 6 a",
                     "edition3 4", ")"):
            self.assertEqual(behind(line), ("BadLine", 11, 0), line)
        self.assertEqual(told(STOCK_TEXT + "\n"), ("BadLine", 6, 0))

    def test_words_of_each_kind_of_line(self):
        rows = [("edition", 1), ("edition x 4", 1), ("edition 03 4", 1), ("edition -3 4", 1), ("edition +3 4", 1),
                ("edition  3 4", 1), ("edition 3", 2), ("edition 3 1", 2), ("edition 3 30", 2), ("edition 3 02", 2),
                ("edition 3 4 x", 3), ("edition 3 4)", 3), ("edition 3 -", 2), ("edition (3 4", 1),
                ("ruling", 1), ("ruling a", 1), ("ruling 4", 2), ("ruling 4 A", 2), ("ruling 4 any", 2), ("ruling 4 a", 3),
                ("ruling 4 a x", 3), ("ruling 4 a -1", 3), ("ruling 4 a 09", 3), ("ruling 4 a --", 3), ("ruling 4 a 9", 4),
                ("ruling 4 a 9 none", 4), ("ruling 4 a 9 123456789", 4), ("ruling 4 a 9 3", 5), ("ruling 4 a 9 3 is", 5),
                ("ruling 4 a 9 3 if", 6), ("ruling 4 a 9 3 if ", 6), ("ruling 4 a - 3 if over", 7),
                ("ruling 4 a - 3 if over 1/2", 8), ("ruling 4 a - 3 if mix mix", 7), ("ruling 4 a - 3 if mix,", 7),
                ("ruling 4 a - 3 if (mix or any", 10), ("ruling 4 a - 3 if mix)", 7), ("ruling 4 a - 3 if some (mix,)", 9),
                ("ruling 4 a - 3 if over 2/4 hair", 7), ("ruling 4 a - 3 if falls none", 7),
                ("lift", 1), ("lift a", 1), ("lift 6", 2), ("lift 6 none", 2), ("lift 6 a b", 3), ("lift 6 a,", 3),
                ("lift 6 abcdefghijklm", 2), ("lift 6 1", 2), ("lift 6 a ", 3),
                ("lot", 1), ("lot 5", 2), ("lot 5 2", 2), ("lot 5 l", 3), ("lot 5 l two", 3), ("lot 5 l 3", 4),
                ("lot 5 l 3 0", 4), ("lot 5 l 3 07", 4), ("lot 5 l 3 x", 4), ("lot 5 l 3 7 1", 5), ("lot 5 l 3 -7", 4),
                ("enter", 1), ("enter 5", 2), ("enter 5 E", 2), ("enter 5 e", 3), ("enter 5 e 3", 3), ("enter 5 e none", 3),
                ("enter 5 e -", 4), ("enter 5 e - if", 4), ("enter 5 e - is", 5), ("enter 5 e - is ", 5),
                ("enter 5 e - is mix", 6), ("enter 5 e - is mix far", 7), ("enter 5 e - is mix far 0 hair", 7),
                ("enter 5 e - is mix far 1", 8), ("enter 5 e - is mix far 1 hair)", 9),
                ("enter 5 e - is mix far 1 hair,", 9), ("enter 5 e - is button worn far (mix far 1 hair", 13),
                ("enter 5 e - is button worn far mix", 8), ("enter 5 e - is (mix far 1 hair)", 5),
                ("enter 5 e - is button worn far (mix far 1 hair) x", 14), ("enter 5 e - is any", 5)]
        for line, word in rows:
            self.assertEqual(behind(line), ("BadLine", 11, word), line)

    def test_numbers_of_300_and_301_digits(self):
        self.assertEqual(behind(f"lot {DIGITS} l 3 1"), ("BadDay", 10 ** 299))
        self.assertEqual(behind(f"lot {DIGITS}0 l 3 1"), ("BadLine", 11, 1))
        self.assertEqual(behind(f"ruling 4 a {DIGITS}0 3 if any"), ("BadLine", 11, 3))
        self.assertEqual(behind(f"lot 5 l 3 {DIGITS}0"), ("BadLine", 11, 4))
        self.assertEqual(behind(f"enter 5 e - is mix far {DIGITS}0 hair"), ("BadLine", 11, 7))
        self.assertEqual(behind(f"edition {DIGITS}0 4"), ("BadLine", 11, 1))
        self.assertEqual(behind(f"edition 4 {DIGITS}"), ("BadLine", 11, 2))
        for line in (f"lot 5 l 3 {DIGITS}", f"ruling 4 a {DIGITS} 3 if any", f"enter 5 e - is mix far {DIGITS} hair",
                     "lot 1000000000 l 3 1"):
            self.assertIsNone(behind(line))
        self.assertEqual(behind("lot 1000000001 l 3 1"), ("BadDay", 10 ** 9 + 1))

    def test_lines_of_a_book(self):
        rows = [(["heading 1 is mix", "rules"], None), (["heading 1 is"], (12, 3)), (["heading 1 is mix"], (13, 0)),
                (["heading 1 is mix,", "rules"], (12, 3)), (["heading 1 if mix", "rules"], (12, 2)),
                (["heading 1 is mix", "rules second"], (13, 1)), (["heading 1 is mix", "heading 2 is any"], (14, 0)),
                (["heading 1 is mix", "note 1 takes any"], (14, 0)), (["rules", "rules"], (13, 0)),
                (["note 1 takes any", "heading 1 is mix"], (13, 0)), (["heading 1 is mix", "lift 6 a"], (13, 0)),
                (["", "rules"], (12, 0)), (["heading 1 is mix", ""], (13, 0)), ([], (12, 0))]
        for lines, place in rows:
            text = "\n".join(["edition 3 2", *lines])
            self.assertEqual(behind(text), None if place is None else ("BadLine", *place), lines)
        self.assertEqual(behind("edition 3 3\nheading 1 is mix\nrules\nlift 6 a"), ("BadLine", 14, 0))
        self.assertEqual(behind("edition 3 3\nheading 1 is mix\nrules"), ("BadLine", 14, 0))
        self.assertEqual(behind("edition 3 2\nheading 1 is mix\nrules\nx"), ("BadLine", 14, 0))
        # the book is asked of its lines before a later line is read, and the deed behind it
        self.assertEqual(behind("edition 3 2\nheading 1 is form ghost\nrules\nx"), ("Unknown", "ghost"))
        self.assertEqual(behind("edition 1 2\nheading 1 is form ghost\nrules\nx"), ("Unknown", "ghost"))
        self.assertEqual(behind("edition 1 2\nheading 1 is mix\nrules\nx"), ("BadDay", 1))
        self.assertEqual(behind("edition 3 2\nheading 1 is falls 1\nrules\nx"), ("BareFalls", "1"))
        self.assertEqual(behind("edition 3 3\nheading 1 is mix\nheading 1 is mix\nrules"), ("Twice", "1"))
        long = ["heading 1 is mix"] + ["note 1 takes any"] * 27
        self.assertEqual(behind("\n".join(["edition 3 29", *long, "rules"])), ("BadBook", "notes"))
        self.assertEqual(behind("\n".join(["edition 3 2", "rules first", "rules"])), ("BadLine", 13, 0))

    def test_texts_that_were_spoiled(self):
        """Whatever is told of a bad line does not hang on what stands behind it; what is read is written again."""
        rng = fixed_random(51)
        pieces = ["mix", "any", "(", ")", ",", "1", "-", "if", "is", "lift", "rules", "heading", "stock", "edition", "a", ""]
        whole = "\n".join([STOCK_TEXT, *LINES])
        read = 0
        for _ in range(4000):
            text = whole
            for _ in range(rng.randint(1, 3)):
                at = rng.randrange(len(text))
                parts, lines = text.split(" "), text.split("\n")
                parts[rng.randrange(len(parts))] = rng.choice(pieces)
                del lines[rng.randrange(len(lines))]
                text = rng.choice([text[:at] + text[at + 1:], text[:at] + rng.choice(" \n(),-1a0") + text[at:],
                                   " ".join(parts), "\n".join(lines)])
            error = told(text)
            if error is None:
                house = read_journal(text)
                self.assertEqual(read_journal(write_journal(house)), house)
                read += 1
            elif error[0] == "BadLine" and error[1] < len(text.split("\n")):
                self.assertEqual(told("\n".join(text.split("\n")[:error[1] + 1])), error)
        self.assertGreater(read, 50)

    def test_errors_of_deeds_come_as_they_come(self):
        rows = [("enter 1 e z is mix near 1 hair\nx", ("BadGood", ())), ("enter 1 e z is mix far 1 hair\nx", ("BadDay", 1)),
                ("enter 5 e z is mix far 1 hair\nx", ("Unknown", "z")), ("enter 5 e - is mix far 1 hair\nx", ("BadLine", 12, 0)),
                ("enter 5 e - is coat worn far (mix far 1 hair, mix far 1 horn)", ("BadGood", (1,))),
                ("lift 5 a\nx", ("Unknown", "a")), ("ruling 5 a 5 3 if falls 1\nx", ("BadDay", 5)),
                ("ruling 5 a 6 3 if some falls 1\nx", ("BareFalls", "1")), ("ruling 5 a - 3 if form ghost", ("Unknown", "ghost")),
                ("lot 5 l 3 1\nlot 5 l 3 1\nx", ("Twice", "l")), ("lot 2 l 3 1", ("BadDay", 2))]
        for line, error in rows:
            self.assertEqual(behind(line), error, line)
        self.assertEqual(told(STOCK_TEXT + "\nenter 0 e - is mix far 1 hair"), ("NoEdition", 0))

    def test_texts_within(self):
        """Words of a line may be wrapped and parted as in the texts of terms and goods."""
        text = "\n".join([STOCK_TEXT, LINES[0], "ruling 4 a - 3 if ((over 0/1 hair) and (some (mix) or not any))",
                          "enter 5 e - is button worn far (mix far 2 hair)"])
        house = read_journal(text)
        term = read_term("over 0/1 hair and (some mix or not any)")
        self.assertEqual(house.rulings_on(4), (("a", term.plain, "3"),))
        self.assertIn(f"ruling 4 a - 3 if {write_term(Term(term.plain))}", write_journal(house))
        self.assertIn(write_good(read_good(STOCK, "button worn far (mix far 2 hair)")), write_journal(house))
        self.assertIn(write_book(OLD), text)
        self.assertIn(write_stock(STOCK), text)


if __name__ == "__main__":
    unittest.main()
