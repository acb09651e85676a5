"""Sorts the kinds of goods by a book into classes, whose goods the book does not tell apart in any thing."""

from fallsunder.benches import look_of_record
from fallsunder.desks import split_by


class Job:
    """Things of a room with one row of parts beside the main one: groups are rows (goods, kind), by main parts."""

    def __init__(self, beside, side, wide, groups):
        self.beside = beside
        self.side = side
        self.wide = wide
        self.groups = groups


class Congruence:
    """The classes of kinds: at first those with the same root and label, then they are parted as long as they can.

    Numbers behind those of the kinds stand for what else things are told as, and are classes of their own.
    """

    def __init__(self, kit, labels):
        self._kit = kit
        self._jobs = [self._jobs_of(room) for room in kit.rooms]
        self._classes = numbered([(kind.top, label) for kind, label in zip(kit.kinds, labels)])
        many = 0
        while many < max(self._classes) + 1:
            many = max(self._classes) + 1
            self._classes = numbered(self._all_signs())

    def least_of_all(self):
        """For each kind the number of a least kind of its class."""
        least = {}
        return [least.setdefault(name, number) for number, name in enumerate(self._classes)]

    def least_kinds(self):
        """The number of a least kind of each class."""
        out = {}
        for number, name in enumerate(self._classes):
            out.setdefault(name, number)
        return list(out.values())

    def _jobs_of(self, room):
        out = []
        for many, sides in enumerate(room.sides):
            for side in sides if self._kit.cases(room, many + 1) and room.mains else []:
                out.append(Job(many, side, len(room.mains), self._kit.groups_of(room, many, side)))
        return out

    def _all_signs(self):
        """For each kind its class, and how it is told apart in each room that takes it."""
        told = []
        for room, jobs in zip(self._kit.rooms, self._jobs):
            columns = [self._columns_of(job) for job in jobs]
            told.append((self._parted_mains(room, jobs, columns), self._parted_looks(room, jobs, columns)))
        return [(name, *self._sign_of(kind, told)) for name, kind in zip(self._classes, self._kit.kinds)]

    def _sign_of(self, kind, told):
        """How a kind is told apart in each room that takes it."""
        sign = []
        look = look_of_record(self._kit.bench, kind.record)
        for room, (mains, looks) in zip(self._kit.rooms, told):
            if kind.top in room.taking.takes:
                sign.extend([mains[kind.record], looks[look]])
        return sign

    def _columns_of(self, job):
        """For each class the things of a job that are in it, ascending by the classes."""
        out = {}
        for goods, number in job.groups:
            name = self._classes[number] if number < len(self._classes) else len(self._classes) - 1 - number
            out[name] = out.get(name, 0) | goods
        return tuple([(name, out[name]) for name in sorted(out)])

    def _parted_mains(self, room, jobs, columns):
        """A number for each record of the possible main parts, the same where no job tells them apart."""
        groups = [((1 << len(room.mains)) - 1, 0)]
        for mains in main_columns(jobs, columns):
            groups = split_by(groups, mains, 0)
        out = {}
        for name, (mains, _) in enumerate(groups):
            for at, number in enumerate(room.mains):
                if mains >> at & 1:
                    out[self._kit.kinds[number].record] = name
        return out

    def _parted_looks(self, room, jobs, columns):
        """A number for each look of parts beside the main one, the same where no job tells them apart."""
        names = numbered(columns)
        where = {(job.beside, job.side): names[at] for at, job in enumerate(jobs)}
        signs = []
        for more, every in room.looks:
            sign = []
            for many, sides in enumerate(room.sides[:-1]):
                for some, each in sides:
                    sign.append(where.get((many + 1, (some | more, each & every)), -1))
            signs.append(tuple(sign))
        numbers = numbered(signs)
        return {look: numbers[at] for at, look in enumerate(room.looks)}


def main_columns(jobs, columns):
    """The main parts whose things are in one class, for each class of each job, each such choice once."""
    out = {}
    for job, row in zip(jobs, columns):
        block = (1 << job.wide) - 1
        # what stands in no other column stands in the last one
        for _, goods in row[:-1]:
            left = goods
            while left:
                if left & block not in (0, block):
                    out[left & block] = True
                left = left >> job.wide
    return list(out)


def numbered(things):
    """A number for each of some things, the same for those that are equal."""
    found = {}
    for thing in things:
        found.setdefault(thing, len(found))
    return [found[thing] for thing in things]
