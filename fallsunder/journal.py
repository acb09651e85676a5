"""Journals: the texts of houses."""

from fallsunder.booktext import read_book, rows_of_book, write_book
from fallsunder.errors import BadLine, BadWord
from fallsunder.goods import Good
from fallsunder.goodtext import plain_of_words, read_stock, rows_of_stock, write_good, write_stock
from fallsunder.house import House
from fallsunder.termtext import read_plain, write_plain
from fallsunder.wordcut import cut_words, is_numeral, suits

# the words of the first lines of deeds, without the term or the good that may follow
LINES = {"edition": ("edition", "day", "lines"), "ruling": ("ruling", "day", "name", "end", "heading", "if"),
         "lift": ("lift", "day", "name"), "lot": ("lot", "day", "name", "heading", "grams"),
         "enter": ("enter", "day", "name", "claim", "is")}
STOCK_LINES = (4, 9)
BOOK_LINES = (2, 29)


def write_journal(house):
    """The text of a House."""
    stock = write_stock(house.stock)
    blocks = [f"stock {line_count(stock)}", stock]
    for deed in house.standing():
        blocks.extend(blocks_of(deed))
    return "\n".join(blocks)


def line_count(text):
    """How many lines a text has."""
    return len(text.split("\n"))


def blocks_of(deed):
    """The lines of a deed, some of them in one text."""
    word, day, name = deed[:3]
    if word == "edition":
        book = write_book(name)
        return [f"edition {day} {line_count(book)}", book]
    if word == "ruling":
        end = "-" if deed[3] is None else f"{deed[3]}"
        return [f"ruling {day} {name} {end} {deed[5]} if {write_plain(deed[4])}"]
    if word == "lot":
        return [f"lot {day} {name} {deed[3]} {deed[4]}"]
    if word == "enter":
        lot = "-" if deed[4] == "" else deed[4]
        return [f"enter {day} {name} {lot} is {write_good(deed[3])}"]
    return [f"lift {day} {name}"]


def read_journal(text):
    """The House with this text."""
    lines = text.split("\n")
    words = words_of_line(lines, 0, {"stock": ("stock", "stock lines")})
    at = 1 + int(words[1])
    house = House(stock_of_lines(lines, at))
    while at < len(lines):
        words = words_of_line(lines, at, dict(LINES))
        behind = at + 1 + (int(words[2]) if words[0] == "edition" else 0)
        house.do(deed_of_lines(house.stock, lines, at, behind, words))
        at = behind
    return house


def words_of_line(lines, at, forms):
    """The words of the line with this number, a line of one of these forms; a term or a good may follow."""
    words = cut_words(lines[at], "),")
    if words[0] not in forms:
        raise BadLine(at, 0)
    kinds = forms[words[0]]
    for k, kind in enumerate(kinds):
        if k >= len(words) or not suits_journal(words[k], kind):
            raise BadLine(at, k)
    if len(words) > len(kinds) and words[0] not in ("ruling", "enter"):
        raise BadLine(at, len(kinds))
    return words


def suits_journal(word, kind):
    """Is the word of this kind?"""
    if kind == "day":
        return is_numeral(word)
    if kind == "end":
        return word == "-" or is_numeral(word)
    if kind == "claim":
        return word == "-" or suits(word, "name")
    if kind == "lines":
        return is_numeral(word) and BOOK_LINES[0] <= int(word) <= BOOK_LINES[1]
    if kind == "stock lines":
        return is_numeral(word) and STOCK_LINES[0] <= int(word) <= STOCK_LINES[1]
    return suits(word, kind)


def stock_of_lines(lines, behind):
    """The Stock whose lines stand behind the first one."""
    try:
        rows_of_stock(lines[1:behind])
        if behind > len(lines):
            raise BadLine(len(lines) - 1, 0)
        return read_stock("\n".join(lines[1:behind]))
    except BadLine as bad:
        raise BadLine(bad.line + 1, bad.word) from None


def book_of_lines(stock, lines, start, behind):
    """The Book whose lines begin at this number."""
    try:
        rows_of_book(lines[start:behind])
        if behind > len(lines):
            raise BadLine(len(lines) - start, 0)
        return read_book(stock, "\n".join(lines[start:behind]))
    except BadLine as bad:
        raise BadLine(bad.line + start, bad.word) from None


def deed_of_lines(stock, lines, at, behind, words):
    """The deed whose lines begin at this number and end ahead of another one."""
    word = words[0]
    day = int(words[1])
    if word == "edition":
        return (word, day, book_of_lines(stock, lines, at + 1, behind))
    if word == "lift":
        return (word, day, words[2])
    if word == "lot":
        return (word, day, words[2], words[3], int(words[4]))
    try:
        told = read_plain(words, 6) if word == "ruling" else plain_of_words(words, 5)
    except BadWord as bad:
        raise BadLine(at, bad.number) from None
    if word == "ruling":
        return (word, day, words[2], None if words[3] == "-" else int(words[3]), told, words[4])
    return (word, day, words[2], Good(stock, told), "" if words[3] == "-" else words[3])
