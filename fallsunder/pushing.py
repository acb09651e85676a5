"""Pushed terms, with `not` only directly above what looks at a good itself."""

from fallsunder.terms import Term
from fallsunder.termtree import beneath_sign, term_nodes

UNDER_NOT = ("mix", "form", "state", "over", "from", "parts", "falls")
# what a sign becomes beneath `not`
TURNED = {"any": "none", "none": "any", "and": "or", "or": "and", "some": "each", "each": "some"}


def pushed(term):
    """The pushed Term."""
    heads = []
    stack = [(term.plain, False)]
    while stack:
        plain, turned = stack.pop()
        below = beneath_sign(plain)
        if plain[0] == "not":
            stack.append((below[0], not turned))
            continue
        heads.extend(heads_of(plain, turned, len(below)))
        for inner in below[::-1]:
            stack.append((inner, turned))
    return Term(joined(heads))


def heads_of(plain, turned, many):
    """The first words of what stands for a term or, turned, for its `not`: rows of (words, terms behind it)."""
    word = plain[0]
    if not turned:
        return [(plain, 0) if many == 0 else ((word,), many)]
    if word in TURNED:
        return [((TURNED[word],), many)]
    if word == "main":
        # a mix has no main part, so that it keeps the `not`
        return [(("or",), 2), (("mix",), 0), (("main",), 1)]
    return [(("not",), 1), (plain, 0)]


def joined(heads):
    """The plain term whose terms, in the order of a walk, begin so."""
    done = []
    for words, many in heads[::-1]:
        below = []
        for _ in range(many):
            below.append(done.pop())
        done.append((*words, *below))
    return done[0]


def is_pushed(term):
    """Is it a pushed Term?"""
    return all([plain[1][0] in UNDER_NOT for plain in term_nodes(term.plain) if plain[0] == "not"])
