"""The texts of books."""

from fallsunder.bookcheck import RULES
from fallsunder.books import Book
from fallsunder.errors import BadLine, BadWord
from fallsunder.termtext import read_plain, write_plain
from fallsunder.wordcut import check_words, cut_words

# the first words of lines, in the order in which the lines stand
KINDS = ("heading", "note", "rules")


def write_book(book):
    """The text of a Book."""
    lines = []
    for name, parent, plain in book.headings:
        under = "" if parent == "" else f" under {parent}"
        lines.append(f"heading {name}{under} is {write_plain(plain)}")
    for name, word, plain, target in book.notes:
        if word == "sends":
            lines.append(f"note {name} sends {target} if {write_plain(plain)}")
        else:
            lines.append(f"note {name} {word} {write_plain(plain)}")
    lines.append(" ".join(["rules", *book.rules]))
    return "\n".join(lines)


def read_book(stock, text):
    """The Book with this text."""
    lines = text.split("\n")
    rows = rows_of_book(lines)
    if not rows["rules"]:
        raise BadLine(len(lines), 0)
    return Book(stock, rows["heading"], notes=rows["note"], rules=rows["rules"][0])


def rows_of_book(lines):
    """What the first lines of a book tell, by the first words of lines; they are as they must be by their form."""
    rows = {kind: [] for kind in KINDS}
    reached = "heading"
    for number, line in enumerate(lines):
        words = cut_words(line, ")")
        if words[0] not in KINDS or rows["rules"] or KINDS.index(words[0]) < KINDS.index(reached):
            raise BadLine(number, 0)
        reached = words[0]
        rows[reached].append(row_of_line(number, words))
    return rows


def row_of_line(number, words):
    """What the words of the line with this number tell."""
    try:
        return row_of_words(words)
    except BadWord as bad:
        raise BadLine(number, bad.number) from None


def row_of_words(words):
    """What the words of a line tell: the row of a heading or of a note, or the rules."""
    if words[0] == "rules":
        for at, word in enumerate(words[1:]):
            if word not in RULES:
                raise BadWord(at + 1)
        return words[1:]
    check_words(words, 1, ("heading",))
    if words[0] == "heading":
        return heading_of_words(words)
    return note_of_words(words)


def heading_of_words(words):
    """The row of a heading."""
    parent = ""
    at = 2
    if words[2:3] == ["under"]:
        check_words(words, 3, ("heading",))
        parent = words[3]
        at = 4
    check_words(words, at, ("is",))
    return (words[1], parent, read_plain(words, at + 1))


def note_of_words(words):
    """The row of a note."""
    if words[2:3] == ["sends"]:
        check_words(words, 3, ("heading", "if"))
        return (words[1], "sends", read_plain(words, 5), words[3])
    if words[2:3] != ["takes"] and words[2:3] != ["shuts"]:
        raise BadWord(2)
    return (words[1], words[2], read_plain(words, 3), "")
