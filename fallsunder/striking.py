"""Which choices of struck notes leave a good with a leaf as its result, asked of all choices at once.

A choice of notes is told by an integer with a bit for each of its notes; the worth of a cell is an integer with one
bit for each choice.
"""

from fallsunder.answering import simple_worth
from fallsunder.books import RESULTS
from fallsunder.desks import Desk
from fallsunder.goods import good_nodes
from fallsunder.sheets import Sheet, share_holds, work_falls, work_out


class StruckDesk(Desk):
    """A Desk of a book of which each choice of notes is struck, the bits of a worth being the choices."""

    def __init__(self, sheet, owner, book):
        super().__init__(sheet, owner, book)
        self._left = [choices_without(number, len(book.notes)) for number in range(len(book.notes))]

    def notes_told(self, values):
        """For each note the choices that leave it and for which its term is true."""
        return [values[cell] & left for cell, left in zip(self._noted, self._left)]


class Striker:
    """Keeps the choices of struck notes for which no good is known that has a fault."""

    def __init__(self, book):
        self._full = (1 << (1 << len(book.notes))) - 1
        self._left = self._full
        self._sheet = Sheet()
        self._desk = StruckDesk(self._sheet, 0, book)

    def may_be_sound(self, numbers):
        """Is no good known that has a fault if the notes with these numbers are struck?"""
        return self._left >> sum([1 << number for number in numbers]) & 1 == 1

    def is_done(self):
        """Is no choice left?"""
        return self._left == 0

    def take(self, good):
        """Keep the choices by which this good has a leaf as its result."""
        done = []
        for node in good_nodes(good)[::-1]:
            below = []
            for _ in node:
                below.append(done.pop())
            done.append(self._node_worths(node, below))
        for choices, name in done[0][1]:
            if name in RESULTS:
                self._left = self._left & (self._full ^ choices)

    def _node_worths(self, node, below):
        """The worths of all cells for a node, and its results with their choices."""
        values = [0 for _ in self._sheet.cells]
        for number, word, about in self._sheet.simple:
            values[number] = self._full * simple_worth(word, about, node, node.state)
        for number in self._sheet.shares:
            values[number] = below[node.main][0][number] if below else self._share_worth(number, node)
        for number, word, inner in self._sheet.looks:
            values[number] = self._look_worth(word, [part[0][inner] for part in below], node.main)
        work_out(values, self._full, self._sheet.early)
        mains = below[node.main][1] if below else [(self._full, "")]
        found = self._desk.results_of(values, self._full, mains)
        work_falls(self._sheet, {0: self._desk}, values, {0: found})
        work_out(values, self._full, self._sheet.late)
        return (values, found)

    def _share_worth(self, number, node):
        row = self._sheet.cells[number]
        grams = sum([pair[1] for pair in node.plain[2] if pair[0] == row[1]])
        return self._full if share_holds(row, grams, node.weight) else 0

    def _look_worth(self, word, worths, main):
        if word == "main":
            return worths[main] if worths else 0
        out = 0 if word == "some" else self._full
        for worth in worths:
            out = out | worth if word == "some" else out & worth
        return out


def choices_without(number, many):
    """The bits of those choices, of so many notes, in which the note with this number is not."""
    out = 1
    for k in range(many):
        wide = 1 << k
        out = out if k == number else out | out << wide
    return out
