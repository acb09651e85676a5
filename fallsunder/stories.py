"""What a book asks of parts at each depth, told in classes: of a part less and less is asked the deeper it lies.

A story has the kinds of the parts of which the things at one depth are made. Such a thing is told as a part of the
story above, that of the first story by a label of its result; one of the last story is a part of this story, too.
"""

from fallsunder.benches import parted_answers, starts_by
from fallsunder.congruence import Congruence
from fallsunder.desks import Desk
from fallsunder.excerpts import all_asked, asked_in_turn, bench_for
from fallsunder.kits import Kind, Room
from fallsunder.slimming import SlimSheet
from fallsunder.stages import states_asked, takings_of
from fallsunder.surveys import Survey


class Labels:
    """Labels of goods by their results: is it the leaf, and is it a wanted one?"""

    def __init__(self, leaf, wanted):
        self._leaf = leaf
        self._wanted = wanted

    def label_of(self, result):
        """The label of a result: 1 if it is wanted, and 2 more if it is the leaf."""
        return (2 if result == self._leaf else 0) + (1 if result in self._wanted else 0)

    def numbers_of(self, answers, cases, wide):
        """The things with some answers by their labels: rows (goods, label)."""
        return [(goods, self.label_of(result)) for goods, result in answers.groups[0]]


class Story:
    """The kinds of the parts at one depth, as a Bench asks of them, and the rooms that they make."""

    def __init__(self, number, bench, kinds):
        self.number = number
        self.stock = bench.stock
        self.bench = bench
        self.kinds = kinds
        self._states = states_asked(bench)
        self._roots = ["mix", *[row[0] for row in self.stock.forms]]
        self._numbers = {(kind.top, *kind.record): number for number, kind in enumerate(self.kinds)}
        self._spots = list(range(len(self.kinds)))
        takings = takings_of([row for row in self.stock.forms if row[0] in self.stock.usable()])
        self.rooms = [Room(bench, taking, self.kinds) for taking in takings]

    def cases(self, room, many):
        """The forms and states of things of so many parts in a room."""
        return room.taking.cases(many, self._states)

    def answers_beside(self, room, beside, side):
        """The answers for the things of a room beside a side of so many parts."""
        return self.bench.things(self.cases(room, beside + 1), beside + 1, room.pack, side)

    def numbers_of(self, answers, cases, wide):
        """The things with some answers as parts of this story: rows (goods, number of the kind)."""
        starts = starts_by([self._roots.index(case[0]) for case in cases], wide)
        cells = self.bench.cells
        out = []
        for goods, number, names in parted_answers(answers, starts, cells, self.bench.keepers):
            key = (self._roots[number >> len(cells)], number & (1 << len(cells)) - 1, names)
            out.append((goods, self._spots[self._numbers[key]]))
        return out

    def keep(self, least):
        """Keep one kind for each class; of each kind the number of the least one of its class is told."""
        kept = sorted(set(least))
        spots = {number: at for at, number in enumerate(kept)}
        self._spots = [spots[number] for number in least]
        self.kinds = [self.kinds[number] for number in kept]
        self.rooms = [Room(self.bench, room.taking, self.kinds) for room in list(self.rooms)]


class Telling:
    """The things that are made of parts of a story, told as parts of another one, or by their labels."""

    def __init__(self, story, target, up):
        self.story = story
        self.target = target
        self.up = up
        self.kinds = story.kinds
        self.bench = story.bench

    def cases(self, room, many):
        """The forms and states of things of so many parts in a room."""
        return self.story.cases(room, many)

    def groups_of(self, room, beside, side):
        """The things beside a side of so many parts: rows (goods, number of what they are told as)."""
        answers = self.story.answers_beside(room, beside, side)
        return self.target.numbers_of(answers, self.cases(room, beside + 1), len(room.mains))


class Sorting:
    """A story as a Congruence asks it: things are told by the story above, and as own parts if it is the last one."""

    def __init__(self, story, above, is_last):
        self.kinds = story.kinds
        self.rooms = story.rooms
        self.bench = story.bench
        self._told_by = story
        self._above = above
        self._is_last = is_last

    def cases(self, room, many):
        """The forms and states of things of so many parts in a room."""
        return self._told_by.cases(room, many)

    def groups_of(self, room, beside, side):
        """Rows (goods, number): numbers behind those of the own kinds are told by the story above."""
        answers = self._told_by.answers_beside(room, beside, side)
        where = (self.cases(room, beside + 1), len(room.mains))
        out = [(goods, len(self.kinds) + number) for goods, number in self._above.numbers_of(answers, *where)]
        return [*self._told_by.numbers_of(answers, *where), *out] if self._is_last else out


class Tower:
    """The stories of a book, their kinds in classes, for a leaf and the results that are wanted.

    Tellings are all ways in which things are told, mix_rows rows (label, making) of mixes, results all that goods have.
    """

    def __init__(self, book, leaf, wanted):
        sheet = SlimSheet()
        desks = {0: Desk(sheet, 0, book)}
        labels = Labels(leaf, wanted)
        survey = Survey(book.stock, sheet, desks, ((), (0,)), rooted=True)
        self.stock = book.stock
        self.results = [key[2][0] for key in survey.rows]
        mixes = [(key[2][0], found[1]) for key, found in survey.rows.items() if key[0] == "mix"]
        self.mix_rows = [(labels.label_of(result), making) for result, making in mixes]
        self.stories = stories_of(book.stock, sheet, desks)
        self.tellings = []
        above = labels
        for story in list(self.stories):
            is_last = story.number == len(self.stories) - 1
            sorted_out = Congruence(Sorting(story, above, is_last), [() for _ in story.kinds])
            story.keep(sorted_out.least_of_all())
            self.tellings.append(Telling(story, above, story.number - 1))
            above = story
        last = self.stories[len(self.stories) - 1]
        self.tellings.append(Telling(last, last, last.number))


def stories_of(stock, sheet, desks):
    """The stories of a book at a desk, for results of goods."""
    chain, again = asked_in_turn(stock, sheet, desks, ((), (0,)))
    rows = [*chain, again] if len(chain) > 1 else [all_asked([*chain, again])]
    out = []
    for number, asked in enumerate(rows):
        bench = bench_for(stock, sheet, desks, asked)
        survey = Survey(stock, sheet, desks, (tuple(bench.cells), tuple(bench.keepers)), rooted=True)
        out.append(Story(number, bench, [Kind(key[0], key[1:], (), found) for key, found in survey.rows.items()]))
    return out
