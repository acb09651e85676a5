"""Finds what goods can be in ascending order of their nodes, one pair of a part and of parts beside it at a time."""

from heapq import heappop, heappush


class Stand:
    """What has been found for a hall: the parts that can be main ones or others, and the sides beside main parts."""

    def __init__(self, number, hall):
        self.number = number
        self.hall = hall
        self.parts = []
        self.sides = []


class Ascent:
    """Joins parts and sides, the smallest first; parts and sides have `nodes`, sides have `beside`, their length.

    A class below tells how they are joined, and what comes of it.
    """

    def __init__(self, halls):
        self.stands = [Stand(number, hall) for number, hall in enumerate(halls)]
        self.ended = False
        self._queue = []
        self._jobs = {}
        self._turn = 0

    def run(self):
        """Do all that is planned, until all is found or it is done."""
        while self._queue and not self.ended:
            nodes, turn = heappop(self._queue)
            word, stand, part, side = self._jobs.pop(turn)
            if word == "combine":
                self.combine(nodes, stand, part, side)
            else:
                self.widen(nodes, stand, part, side)

    def combine(self, nodes, stand, part, side):
        """Take up the things of a main part and a side."""
        raise NotImplementedError("told by the class below")

    def widen(self, nodes, stand, part, side):
        """Take up the side with one more part."""
        raise NotImplementedError("told by the class below")

    def may_join(self, stand, part, side):
        """Can something new come of a main part and a side?"""
        return stand.hall.case_rows[side.beside] != []

    def may_widen(self, stand, part, side):
        """Can something new come of a side with one more part?"""
        return side.beside < stand.hall.reach

    def put_part(self, stand, part):
        """Plan what can be made of a new part, and of all sides that are there."""
        for side in list(stand.sides):
            self._plan(stand, part, side)
        stand.parts.append(part)

    def put_side(self, stand, side):
        """Plan what can be made of a new side, and of all parts that are there."""
        for part in list(stand.parts):
            self._plan(stand, part, side)
        stand.sides.append(side)

    def _plan(self, stand, part, side):
        nodes = part.nodes + side.nodes
        if self.may_join(stand, part, side):
            self._queue_up(nodes + 1, ("combine", stand, part, side))
        if self.may_widen(stand, part, side):
            self._queue_up(nodes, ("widen", stand, part, side))

    def _queue_up(self, nodes, job):
        self._jobs[self._turn] = job
        heappush(self._queue, (nodes, self._turn))
        self._turn += 1
