"""The texts of goods and of stocks."""

from fallsunder.errors import BadLine, BadWord
from fallsunder.goods import Good
from fallsunder.stocks import Stock
from fallsunder.trees import built
from fallsunder.wordcut import check_words, cut_words, is_grams, suits

# the first words of the lines of a stock ahead of its forms, with the most names behind them
LISTS = (("stuffs", 5), ("states", 4), ("lands", 4))
MOST_LINES = 9
FORM_KINDS = ("form", "name", "small", "small")
MOST_TAKES = 7


def words(text):
    """The words of a text of a good."""
    return tuple(cut_words(text, "),"))


def write_good(good):
    """The text of a Good."""
    out = []
    stack = [("", good.plain, "")]
    while stack:
        ahead, node, behind = stack.pop()
        if node[0] == "mix":
            pairs = " ".join([f"{worth} {stuff}" for stuff, worth in node[2]])
            out.append(f"{ahead}mix {node[1]} {pairs}{behind}")
        else:
            out.append(f"{ahead}{node[0]} {node[1]} {node[2]} (")
            stack.extend(parts_to_write(node[3], behind)[::-1])
    return "".join(out)


def parts_to_write(parts, behind):
    """The parts of a thing with what stands ahead of them and behind them."""
    last = len(parts) - 1
    return [(", " if k > 0 else "", part, f"){behind}" if k == last else "") for k, part in enumerate(parts)]


def read_good(stock, text):
    """The Good with this text."""
    return Good(stock, plain_of_words(words(text), 0))


def plain_of_words(pieces, start):
    """The plain good whose words begin at this number and go on to the last one."""
    reader = GoodReader(pieces, start)
    while reader.at < len(reader.pieces):
        reader.take()
    return reader.whole()


class GoodReader:
    """Reads the words of a good one by one; fresh is it where a good must begin."""

    def __init__(self, pieces, start):
        self.pieces = pieces
        self.at = start
        self._fresh = True
        self._heads = []
        self._things = []

    def take(self):
        """Take the next words."""
        if self._fresh and self.pieces[self.at] == "mix":
            self._take_mix()
        elif self._fresh:
            self._take_thing()
        elif not self._things or self.pieces[self.at] not in (",", ")"):
            raise BadWord(self.at)
        else:
            self._take_end()

    def whole(self):
        """The plain good, when all words are taken."""
        if self._fresh or self._things:
            raise BadWord(len(self.pieces))
        return built(self._heads)

    def _take_mix(self):
        check_words(self.pieces, self.at + 1, ("name", "grams", "name"))
        land = self.pieces[self.at + 1]
        pairs = []
        k = self.at + 2
        while k < len(self.pieces) and is_grams(self.pieces[k]):
            check_words(self.pieces, k, ("grams", "name"))
            pairs.append((self.pieces[k + 1], int(self.pieces[k])))
            k += 2
        self._heads.append(("mix", land, tuple(pairs)))
        self.at = k
        self._fresh = False

    def _take_thing(self):
        check_words(self.pieces, self.at, ("name", "name", "name", "("))
        form, state, land = self.pieces[self.at:self.at + 3]
        self._things.append(len(self._heads))
        self._heads.append((form, state, land, 1))
        self.at += 4

    def _take_end(self):
        if self.pieces[self.at] == ",":
            number = self._things[len(self._things) - 1]
            form, state, land, many = self._heads[number]
            self._heads[number] = (form, state, land, many + 1)
            self._fresh = True
        else:
            self._things.pop()
        self.at += 1


def write_stock(stock):
    """The text of a Stock."""
    lines = [" ".join(["stuffs", *stock.stuffs]), " ".join(["states", *stock.states]),
             " ".join(["lands", *stock.lands])]
    for name, least, most, takes in stock.forms:
        lines.append(" ".join(["form", name, str(least), str(most), *takes]))
    return "\n".join(lines)


def read_stock(text):
    """The Stock with this text."""
    rows = rows_of_stock(text.split("\n"))
    if len(rows) <= len(LISTS):
        raise BadLine(len(rows), 0)
    forms = [(row[1], int(row[2]), int(row[3]), row[4:]) for row in rows[len(LISTS):]]
    return Stock(rows[0][1:], rows[1][1:], rows[2][1:], forms)


def rows_of_stock(lines):
    """The words of the first lines of a stock, which are as they must be by their form."""
    rows = [line.split(" ") for line in lines]
    for number, row in enumerate(rows):
        check_line(number, row)
    return rows


def check_line(number, row):
    """The words of a line of a stock are as its number asks."""
    if number >= MOST_LINES:
        raise BadLine(number, 0)
    kinds = line_kinds(number)
    for k, word in enumerate(row):
        if k >= len(kinds) or not suits_line(word, kinds[k]):
            raise BadLine(number, k)
    if number < len(LISTS) and len(row) < 2:
        raise BadLine(number, len(row))
    if number >= len(LISTS) and len(row) < len(FORM_KINDS) + 1:
        raise BadLine(number, len(row))


def line_kinds(number):
    """The kinds of the words that may stand in a line with this number."""
    if number < len(LISTS):
        first, most = LISTS[number]
        return [first, *["name" for _ in range(most)]]
    return [*FORM_KINDS, *["root" for _ in range(MOST_TAKES)]]


def suits_line(word, kind):
    """Is the word of this kind? A root is a name or the word `mix`."""
    if kind == "root":
        return word == "mix" or suits(word, "name")
    return suits(word, kind)
