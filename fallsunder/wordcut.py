"""How texts are cut into words, and which words are names and numbers."""

from fallsunder.errors import BadWord
from fallsunder.stocks import is_name
from fallsunder.termtree import is_heading_name, is_share_of

DIGITS = "0123456789"
LONGEST_NUMBER = 300


def cut_words(text, ends):
    """The words of a text; ends are the signs that are words of their own at the end of a piece."""
    out = []
    for piece in text.split(" "):
        rest = piece.lstrip("(")
        out.extend(["(" for _ in range(len(piece) - len(rest))])
        bare = rest.rstrip(ends)
        if bare != "" or piece == "":
            out.append(bare)
        out.extend(list(rest[len(bare):]))
    return out


def is_numeral(word):
    """Is it the text of an integer from 0, without a leading zero, of at most 300 digits?"""
    if not 1 <= len(word) <= LONGEST_NUMBER or (word[0] == "0" and word != "0"):
        return False
    return all([sign in DIGITS for sign in word])


def is_grams(word):
    """Is it the text of an integer from 1?"""
    return is_numeral(word) and word != "0"


def is_small(word):
    """Is it a digit from 1 to 4?"""
    return word in ("1", "2", "3", "4")


def is_share_word(word):
    """Is it the text of a share, as 1/2?"""
    top, slash, bottom = word.partition("/")
    if slash == "" or not is_numeral(top) or not is_numeral(bottom):
        return False
    return is_share_of(int(top), int(bottom))


def suits(word, kind):
    """Is the word of this kind?"""
    if kind == "name":
        return is_name(word)
    if kind == "heading":
        return is_heading_name(word)
    if kind == "share":
        return is_share_word(word)
    if kind == "small":
        return is_small(word)
    if kind == "grams":
        return is_grams(word)
    return word == kind


def check_words(words, at, kinds):
    """The words from one on are of these kinds."""
    for k, kind in enumerate(kinds):
        if at + k >= len(words) or not suits(words[at + k], kind):
            raise BadWord(at + k)
