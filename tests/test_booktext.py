"""Promise [23]: the texts of books."""

import unittest

from fallsunder.books import Book
from fallsunder.booktext import read_book, write_book
from fallsunder.errors import BadLine, BadWord
from fallsunder.termtext import read_term
from tests.samples import book_from, caught, fixed_random, small_stock, wide_stock

STOCK = small_stock()
TEXT = """heading 1 is any
heading 1a under 1 is (form coat or mix) and over 1/2 hair
heading 2 is none
note 1 takes some falls 1a
note 1a shuts each (mix and not falls 2)
note 1a sends 2 if main main from 0/1 wool
rules special main last"""
SMALLEST = "heading 1 is any\nrules"


class WrittenTest(unittest.TestCase):
    def test_each_kind_of_line(self):
        book = Book(STOCK, [("1", "", ("any",)),
                            ("1a", "1", ("and", ("or", ("form", "coat"), ("mix",)), ("over", "hair", 1, 2))),
                            ("2", "", ("none",))],
                    notes=[("1", "takes", ("some", ("falls", "1a")), ""),
                           ("1a", "shuts", ("each", ("and", ("mix",), ("not", ("falls", "2")))), ""),
                           ("1a", "sends", ("main", ("main", ("from", "wool", 0, 1))), "2")],
                    rules=["special", "main", "last"])
        self.assertEqual(write_book(book), TEXT)
        self.assertEqual(read_book(STOCK, TEXT), book)
        self.assertEqual(read_book(STOCK, SMALLEST), Book(STOCK, [("1", "", ("any",))]))
        self.assertEqual(write_book(read_book(STOCK, SMALLEST)), SMALLEST)

    def test_there_and_back(self):
        rng = fixed_random(31)
        for stock in (STOCK, wide_stock()):
            for _ in range(60):
                book = book_from(stock, rng, 8, 8, 3)
                self.assertEqual(read_book(stock, write_book(book)), book)

    def test_more_parentheses(self):
        book = read_book(STOCK, "heading 1 is ((any))\nnote 1 takes (some (falls 1))\nrules")
        self.assertEqual(write_book(book), "heading 1 is any\nnote 1 takes some falls 1\nrules")

    def test_words_that_are_not_reserved_are_names(self):
        text = "heading is is any\nheading under under is is any\nheading heading under under is mix\nheading if is none\n" \
               "heading rules is any\nnote rules sends if if mix\nnote takes takes any\nrules first"
        found = caught(lambda: read_book(STOCK, text))
        self.assertEqual(found, ("BadNote", 1))
        book = read_book(STOCK, text.replace("note takes takes", "note under takes"))
        self.assertEqual(list(book), ["is", "under", "heading", "if", "rules"])
        self.assertEqual(book["heading"], ("heading", "under", ("mix",)))
        self.assertEqual(book.notes[0], ("rules", "sends", ("mix",), "if"))


class ReadTest(unittest.TestCase):
    def bad(self, text, line, word):
        self.assertEqual(caught(lambda: read_book(STOCK, text)), ("BadLine", line, word), text)

    def test_lines_that_lack_or_stand_wrongly(self):
        self.bad("", 0, 0)
        self.bad("\n" + SMALLEST, 0, 0)
        self.bad(SMALLEST + "\n", 2, 0)
        self.bad("heading 1 is any", 1, 0)
        self.bad("heading 1 is any\nnote 1 takes any", 2, 0)
        self.bad("heading 1 is any\nrules\nrules", 2, 0)
        self.bad("rules\nheading 1 is any", 1, 0)
        self.bad("note 1 takes any\nheading 1 is any\nrules", 1, 0)
        self.bad("heading 1 is any\nnote 1 takes any\nheading 2 is any\nrules", 2, 0)
        self.bad("heading 1 is any\n\nrules", 1, 0)
        self.bad("heading 1 is any\nstuffs\nrules", 1, 0)
        self.bad("heading 1 is any\nrules first\nnote", 2, 0)

    def test_first_bad_word(self):
        rows = [("heading", 1), ("heading any is any", 1), ("heading 1", 2), ("heading 1 any", 2), ("heading 1 under", 3),
                ("heading 1 under or is any", 3), ("heading 1 under 2", 4), ("heading 1 under 2 any", 4),
                ("heading 1 under 2 is", 5), ("heading 1 is", 3), ("heading 1 is is", 3), ("heading 1 is any any", 4),
                ("heading 1 is (any", 5), ("heading 1 is any)", 4), ("heading 1 is over 2/4 hair", 4),
                ("heading 1 is over 1/2", 5), ("heading 1 is any ", 4), (" heading 1 is any", 0), ("heading  1 is any", 1),
                ("heading 1 is not", 4), ("heading 1 is any and", 5), ("Heading 1 is any", 0), ("heading 123456789 is any", 1),
                ("heading 1 under  is any", 3), ("(heading 1 is any", 0), ("heading 1) is any", 2),
                ("heading 1 is parts 5", 4), ("heading 1 is falls ring", 4)]
        for line, word in rows:
            self.bad(line + "\nrules nothing", 0, word)
            self.bad("heading 9 is any\n" + line + "\nrules", 1, word)

    def test_first_bad_word_of_notes(self):
        rows = [("note", 1), ("note any takes any", 1), ("note 1", 2), ("note 1 gives any", 2), ("note 1 takes", 3),
                ("note 1 takes if any", 3), ("note 1 shuts", 3), ("note 1 shuts any 2", 4), ("note 1 sends", 3),
                ("note 1 sends main if any", 3), ("note 1 sends 2", 4), ("note 1 sends 2 any", 4), ("note 1 sends 2 if", 5),
                ("note 1 sends 2 if some", 6), ("note 1 sends 2 if any ", 6)]
        for line, word in rows:
            self.bad("heading 9 is any\n" + line + "\nrules", 1, word)

    def test_first_bad_word_of_rules(self):
        rows = [("rules ", 1), ("rules other", 1), ("rules first second", 2), ("rules first ", 2), ("rules first)", 2),
                ("rules (first", 1), ("rules  first", 1)]
        for line, word in rows:
            self.bad("heading 9 is any\n" + line, 1, word)

    def test_errors_of_book_behind_the_whole_text(self):
        rows = [("rules", ("BadBook", "headings")), ("note 1 takes any\nrules first first", ("BadBook", "headings")),
                ("heading 1 is form ghost\nheading 1 is any\nrules", ("Unknown", "ghost")),
                ("heading 1 under 2 is any\nrules", ("Unknown", "2")), ("heading 1 is some falls 1\nrules", ("BareFalls", "1")),
                ("heading 1 is any\nheading 1 is any\nrules", ("Twice", "1")),
                ("heading 1 is any\nnote 1 takes falls 1\nrules", ("BareFalls", "1")),
                ("heading 1 is any\nnote 1 takes some falls 2\nrules", ("Unknown", "2")),
                ("heading 1 is any\nnote 2 takes any\nrules", ("BadNote", 0)),
                ("heading 1 is any\nnote 1 sends 1 if any\nrules", ("BadNote", 0)),
                ("heading 1 is any\nrules first main first", ("Twice", "first")),
                ("heading 1 is any\nrules first main first last special", ("BadBook", "rules")),
                ("\n".join(f"heading {k} is any" for k in range(13)) + "\nrules", ("BadBook", "headings")),
                ("heading 1 is any\n" + "note 1 takes any\n" * 17 + "rules", ("BadBook", "notes")),
                ("heading 1 is any\nheading 1a under 1 is any\nnote 1 sends 1a if any\nrules", ("BadNote", 0))]
        for text, error in rows:
            self.assertEqual(caught(lambda: read_book(STOCK, text)), error, text)
        self.bad("heading 1 is any\nheading 1 is any\nrules other", 2, 1)

    def test_errors_keep_line_and_word(self):
        with self.assertRaises(BadLine) as found:
            read_book(STOCK, "heading 1 is any\nrules x")
        self.assertEqual((found.exception.line, found.exception.word), (1, 1))
        with self.assertRaises(BadWord):
            read_term("any any")


if __name__ == "__main__":
    unittest.main()
