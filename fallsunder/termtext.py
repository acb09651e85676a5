"""The texts of terms."""

from fallsunder.errors import BadWord
from fallsunder.terms import Term
from fallsunder.termtree import beneath_sign, term_nodes
from fallsunder.wordcut import check_words, cut_words

# what stands behind the first word of a term that has no terms beneath it
LEAVES = {"any": (), "none": (), "mix": (), "form": ("name",), "state": ("name",), "over": ("share", "name"),
          "from": ("share", "name"), "parts": ("small",), "falls": ("heading",)}
# how strongly a sign binds
STRENGTHS = {"(": -1, "or": 0, "and": 1, "not": 2, "some": 2, "each": 2, "main": 2}
STRONGEST = 2


def write_term(term):
    """The text of a Term."""
    return write_plain(term.plain)


def write_plain(plain):
    """The text of a plain term."""
    done = []
    for term in term_nodes(plain)[::-1]:
        below = []
        for _ in beneath_sign(term):
            below.append(done.pop())
        done.append(joined_text(term, below))
    return done[0][0]


def joined_text(term, below):
    """The text of a term and its strength, from those of the terms beneath it."""
    word = term[0]
    if word in ("over", "from"):
        return (f"{word} {term[2]}/{term[3]} {term[1]}", STRONGEST)
    if not below:
        return (" ".join([str(entry) for entry in term]), STRONGEST)
    strength = STRENGTHS[word]
    if len(below) == 1:
        return (f"{word} {wrapped(below[0], strength)}", strength)
    # a row of the same sign is read from the left: only its right side needs parentheses
    return (f"{wrapped(below[0], strength)} {word} {wrapped(below[1], strength + 1)}", strength)


def wrapped(text, least):
    """The text, in parentheses where its strength is less than the least."""
    return f"({text[0]})" if text[1] < least else text[0]


def read_term(text):
    """The Term with this text."""
    return Term(read_plain(cut_words(text, ")"), 0))


def read_plain(words, start):
    """The plain term whose words begin at this number and go on to the last one."""
    reader = TermReader(words, start)
    while reader.at < len(words):
        if reader.fresh:
            reader.take_first()
        else:
            reader.take_next()
    return reader.whole()


class TermReader:
    """Reads the words of a term one by one; fresh is it where a term must begin."""

    def __init__(self, words, start):
        self.words = words
        self.at = start
        self.fresh = True
        self._signs = []
        self._terms = []
        self._wraps = 0

    def take_first(self):
        """Take a word with which a term may begin."""
        word = self.words[self.at]
        if word == "(":
            self._wraps += 1
        if word == "(" or STRENGTHS.get(word, 0) == STRONGEST:
            self._signs.append(word)
            self.at += 1
            return
        if word not in LEAVES:
            raise BadWord(self.at)
        check_words(self.words, self.at + 1, LEAVES[word])
        behind = self.at + 1 + len(LEAVES[word])
        self._terms.append(leaf_of(self.words[self.at:behind]))
        self.at = behind
        self.fresh = False

    def take_next(self):
        """Take a word that may stand behind a term."""
        word = self.words[self.at]
        if word in ("and", "or"):
            self._join(STRENGTHS[word])
            self._signs.append(word)
            self.fresh = True
        elif word == ")" and self._wraps > 0:
            self._join(0)
            self._signs.pop()
            self._wraps -= 1
        else:
            raise BadWord(self.at)
        self.at += 1

    def whole(self):
        """The term, when all words are taken."""
        if self.fresh or self._wraps > 0:
            raise BadWord(len(self.words))
        self._join(0)
        return self._terms[0]

    def _join(self, least):
        """Join what the last signs enclose, as far as they bind at least so strongly."""
        while self._signs and STRENGTHS[self._signs[len(self._signs) - 1]] >= least:
            word = self._signs.pop()
            last = self._terms.pop()
            if STRENGTHS[word] == STRONGEST:
                self._terms.append((word, last))
            else:
                first = self._terms.pop()
                self._terms.append((word, first, last))


def leaf_of(words):
    """The plain term of some words without a term beneath."""
    word = words[0]
    if word in ("over", "from"):
        top, _, bottom = words[1].partition("/")
        return (word, words[2], int(top), int(bottom))
    if word == "parts":
        return (word, int(words[1]))
    return tuple(words)
