"""Stocks, and all goods of few nodes over them, for the tests; told apart from the program itself."""

import itertools
import random

from fallsunder.books import Book
from fallsunder.claims import implied
from fallsunder.errors import FallsError
from fallsunder.goods import Good
from fallsunder.stocks import Stock
from fallsunder.terms import Term


def small_stock():
    return Stock(["hair", "wool"], ["worn", "whole"], ["far"],
                 [("coat", 1, 2, ["mix", "button"]), ("button", 1, 1, ["mix"])])


def wide_stock():
    return Stock(["hair", "wool", "horn"], ["worn", "whole"], ["far", "here"],
                 [("coat", 1, 3, ["mix", "coat", "button"]), ("button", 1, 2, ["mix"]), ("ghost", 1, 1, ["ghost"])])


def twin_stock():
    """Two forms that take the same roots, and one of three parts."""
    return Stock(["a", "b"], ["s", "t"], ["l"],
                 [("p", 1, 2, ["mix", "q"]), ("q", 1, 1, ["q", "mix"]), ("r", 3, 3, ["mix", "p"])])


def mixes(stock, grams, lands):
    out = []
    for land in lands:
        for row in itertools.product(range(grams + 1), repeat=len(stock.stuffs)):
            pairs = sorted((s, g) for s, g in zip(stock.stuffs, row) if g)
            if pairs:
                out.append(("mix", land, tuple(pairs)))
    return out


def all_goods(stock, nodes, grams=2, lands=None):
    """All plain goods of up to so many nodes, with up to so many grams of each stuff in a mix."""
    lands = stock.lands if lands is None else lands
    by_size = {1: mixes(stock, grams, lands)}
    for size in range(2, nodes + 1):
        found = []
        for (form, least, most, takes), state, land in itertools.product(stock.forms, stock.states, lands):
            for many in range(least, most + 1):
                for sizes in itertools.product(range(1, size), repeat=many):
                    if sum(sizes) == size - 1:
                        rows = [[p for p in by_size[s] if p[0] in takes] for s in sizes]
                        found.extend((form, state, land, parts) for parts in itertools.product(*rows))
        by_size[size] = found
    return [good for size in by_size for good in by_size[size]]


def goods_of(stock, nodes, grams=2, lands=None):
    return [Good(stock, plain) for plain in all_goods(stock, nodes, grams, lands)]


def plain_weight(plain):
    if plain[0] == "mix":
        return sum(g for _, g in plain[2])
    return sum(plain_weight(p) for p in plain[3])


def plain_main(plain):
    weights = [plain_weight(p) for p in plain[3]]
    return weights.index(max(weights))


def plain_size(plain):
    return 1 if plain[0] == "mix" else 1 + sum(plain_size(p) for p in plain[3])


def plain_stuff(plain):
    return plain if plain[0] == "mix" else plain_stuff(plain[3][plain_main(plain)])


def holds(term, plain, falls=None):
    """Is the plain term true of the plain good? Told by the words of the document, with no care for speed."""
    word, parts = term[0], () if plain[0] == "mix" else plain[3]
    if word in ("any", "none"):
        return word == "any"
    if word == "mix":
        return plain[0] == "mix"
    if word == "form":
        return plain[0] == term[1]
    if word == "state":
        return plain[0] != "mix" and plain[1] == term[1]
    if word in ("over", "from"):
        mix = plain_stuff(plain)
        left, right = dict(mix[2]).get(term[1], 0) * term[3], term[2] * plain_weight(mix)
        return left > right or (word == "from" and left == right)
    if word == "parts":
        return len(parts) >= term[1]
    if word == "some":
        return any(holds(term[1], p, falls) for p in parts)
    if word == "each":
        return all(holds(term[1], p, falls) for p in parts)
    if word == "main":
        return parts != () and holds(term[1], parts[plain_main(plain)], falls)
    if word == "falls":
        return falls(term[1], plain)
    if word == "not":
        return not holds(term[1], plain, falls)
    if word == "and":
        return holds(term[1], plain, falls) and holds(term[2], plain, falls)
    return holds(term[1], plain, falls) or holds(term[2], plain, falls)


def random_term(stock, rng, depth, headings=(), bare=False):
    """A plain term; with headings it may name them, beneath part signs alone unless bare."""
    if depth == 0 or rng.random() < 0.15:
        kinds = ["any", "none", "mix", "form", "state", "over", "from", "parts"]
        if headings and bare:
            kinds += ["falls"] * 6
        word = rng.choice(kinds)
        if word == "form":
            return (word, rng.choice(stock.forms)[0])
        if word == "state":
            return (word, rng.choice(stock.states))
        if word in ("over", "from"):
            top, bottom = rng.choice([(0, 1), (1, 2), (1, 3), (2, 3), (1, 1), (3, 7)])
            return (word, rng.choice(stock.stuffs), top, bottom)
        if word == "parts":
            return (word, rng.randint(1, 4))
        return (word, rng.choice(headings)) if word == "falls" else (word,)
    word = rng.choice(["some", "each", "main", "not", "and", "or", "and", "or"])
    under = bare or (bool(headings) and word in ("some", "each", "main"))
    inner = random_term(stock, rng, depth - 1, headings, under)
    if word in ("and", "or"):
        return (word, inner, random_term(stock, rng, depth - 1, headings, under))
    return (word, inner)


def fixed_random(seed):
    return random.Random(seed)


class SlowBook:
    """A book read by the words of the document, with no care for speed; narrower tells which leaf is narrower."""

    def __init__(self, headings, notes, rules, narrower):
        self.headings, self.notes, self.rules, self.narrower = headings, notes, rules, narrower
        self.parents = {name: parent for name, parent, _ in headings}
        self.terms = {name: term for name, _, term in headings}
        self.leaves = [name for name in self.parents if name not in self.parents.values()]

    def line(self, name):
        return self.line(self.parents[name]) + [name] if name else []

    def holds(self, term, plain):
        return holds(term, plain, lambda heading, part: self.under(heading, part))

    def under(self, heading, plain):
        result = self.result(plain)
        return result in self.leaves and heading in self.line(result)

    def fits(self, name, plain):
        if self.parents[name] and not self.fits(self.parents[name], plain):
            return False
        if any(self.holds(n[2], plain) for n in self.notes if n[0] == name and n[1] == "shuts"):
            return False
        terms = [self.terms[name]] + [n[2] for n in self.notes if n[0] == name and n[1] == "takes"]
        return any(self.holds(term, plain) for term in terms)

    def result(self, plain):
        left = [leaf for leaf in self.leaves if self.fits(leaf, plain)]
        if not left:
            return "none"
        for rule in self.rules:
            if len(left) == 1:
                break
            if rule == "special":
                left = [h for h in left if not any(self.narrower(k, h) for k in left if k != h)]
            elif rule == "main":
                main = self.result(plain[3][plain_main(plain)]) if plain[0] != "mix" else None
                left = [main] if main in left else left
            else:
                left = left[:1] if rule == "first" else left[-1:]
        if len(left) > 1:
            return "two"
        been = [left[0]]
        while True:
            steps = [n[3] for n in self.notes if n[0] == been[-1] and n[1] == "sends" and self.holds(n[2], plain)]
            if not steps:
                return been[-1]
            if steps[0] in been:
                return "ring"
            been.append(steps[0])

    def kind(self, marks, plain):
        """The kind of a good where this book is the only watcher."""
        root = plain[0]
        return (root, tuple(self.holds(term, plain) for term, _ in marks), (self.result(plain),))


def line_term(headings, name):
    rows = {row[0]: row for row in headings}
    term = rows[name][2]
    while rows[name][1]:
        name = rows[name][1]
        term = ("and", rows[name][2], term)
    return term


def random_book(stock, rng, most_headings=5, most_notes=4, depth=2):
    """The headings, notes and rules of a book."""
    headings = []
    for k in range(rng.randint(1, most_headings)):
        parent = rng.choice(["", "", *[row[0] for row in headings]])
        headings.append((f"h{k}", parent, random_term(stock, rng, depth)))
    names = [row[0] for row in headings]
    leaves = [name for name in names if name not in [row[1] for row in headings]]
    notes = []
    for _ in range(rng.randint(0, most_notes)):
        word = rng.choice(["takes", "shuts", "sends"])
        term = random_term(stock, rng, depth + 1, tuple(names))
        if word == "sends" and len(leaves) > 1:
            notes.append((*[(a, word, term, b) for a, b in [rng.sample(leaves, 2)]][0],))
        elif word != "sends":
            notes.append((rng.choice(names), word, term, ""))
    rules = rng.sample(["special", "main", "first", "last"], rng.randint(0, 4))
    return headings, notes, rules


class Narrower:
    """Which leaf is narrower, told by claims about all goods."""

    def __init__(self, stock, headings):
        self.stock, self.headings, self.known = stock, headings, {}

    def asked(self, first, second):
        if (first, second) not in self.known:
            one, other = [Term(line_term(self.headings, name)) for name in (first, second)]
            there, back = implied(self.stock, one, other), implied(self.stock, other, one)
            self.known[first, second] = there is None and back is not None
        return self.known[first, second]


def slow_of(book):
    """The SlowBook of a Book."""
    return SlowBook(book.headings, book.notes, book.rules, Narrower(book.stock, book.headings).asked)


def book_from(stock, rng, *args, **more):
    """A random Book."""
    headings, notes, rules = random_book(stock, rng, *args, **more)
    return Book(stock, headings, notes=notes, rules=rules)


def is_sound(good):
    """Is a Good that the program made one by the rules of goods, its grams within the limit?"""
    again = Good(good.stock, good.plain)
    return again == good and good.weight < 10 ** 300


def caught(call):
    """The error of the program that a call raises, as (class name, what it was made with); None if there is none."""
    try:
        call()
    except FallsError as error:
        return (type(error).__name__, *vars(error).values())
    return None
