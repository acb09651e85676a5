"""Plans that ask questions one after another, and tell a result behind them."""

from fallsunder.checks import is_number_of
from fallsunder.errors import BadPlan, BadRow, Undecided
from fallsunder.inquiries import MOST_QUESTIONS, Inquiry, check_inquiry


class Plan:
    """A plan, made of a plain one: `("tells", result)` or `("asks", number, plan if True, plan if False)`."""

    def __init__(self, plain):
        place = bad_plan(plain)
        if place is not None:
            raise BadPlan(place)
        self.plain = plain

    @property
    def deep(self):
        """The greatest number of questions that it asks one after another."""
        greatest = 0
        stack = [(self.plain, 0)]
        while stack:
            node, above = stack.pop()
            greatest = max(greatest, above)
            for inner in node[2:]:
                stack.append((inner, above + 1))
        return greatest

    def __call__(self, questions, good):
        return self._way(questions, good)[1]

    def __eq__(self, other):
        return isinstance(other, Plan) and self.plain == other.plain

    def asked(self, questions, good):
        """The numbers of the questions that it asks of a good, in order."""
        return self._way(questions, good)[0]

    def _way(self, questions, good):
        """The numbers of the questions that are asked, and the result that is told behind them."""
        numbers = []
        node = self.plain
        while node[0] == "asks":
            if node[1] >= len(questions):
                raise BadRow(node[1])
            numbers.append(node[1])
            term = questions[node[1]]
            node = node[2] if term(good) else node[3]
        return (tuple(numbers), node[1])


def bad_plan(plain):
    """The place of the first plan in it that is none by its form, None if all are plans."""
    stack = [((), plain)]
    while stack:
        place, node = stack.pop()
        if not is_plan_node(node):
            return place
        for k, inner in reversed(list(enumerate(node[2:]))):
            stack.append(((*place, k), inner))
    return None


def is_plan_node(node):
    """Is it a plan by itself, whatever the plans beneath it are?"""
    if not isinstance(node, tuple) or len(node) < 2 or not isinstance(node[0], str):
        return False
    if node[0] == "tells":
        return len(node) == 2 and isinstance(node[1], str)
    return node[0] == "asks" and len(node) == 4 and is_number_of(node[1], MOST_QUESTIONS)


def numbers_in(plain):
    """The numbers of all questions in a plain plan, in the order of a walk."""
    out = []
    stack = [plain]
    while stack:
        node = stack.pop()
        if node[0] == "asks":
            out.append(node[1])
            stack.extend([node[3], node[2]])
    return out


def shallowest(book, questions, *, known=None):
    """A right plan of the least depth for the goods in question."""
    check_inquiry(book, questions, known)
    inquiry = Inquiry(book, questions, known)
    rows = inquiry.rows_apart(list(range(len(questions))))
    if rows is not None:
        raise Undecided(inquiry.good_of(rows[0]), inquiry.good_of(rows[1]))
    return Plan(Planner(inquiry.rows, len(questions)).plan_for(0, 0)[1])


class Planner:
    """Finds shallowest plans for rows `(answers as bits, result)` in which the answers tell the result."""

    def __init__(self, rows, many):
        self._rows = list(rows)
        self._many = many
        self._found = {}

    def plan_for(self, asked, answers):
        """The depth and the plain form of a shallowest plan, once the questions of these bits have these answers."""
        if (asked, answers) not in self._found:
            self._found[(asked, answers)] = self._best_plan(asked, answers)
        return self._found[(asked, answers)]

    def _best_plan(self, asked, answers):
        mine = [row for row in self._rows if row[0] & asked == answers]
        if len(set([result for _, result in mine])) == 1:
            return (0, ("tells", mine[0][1]))
        best = None
        for number in range(self._many):
            bit = 1 << number
            # a question that all answer alike is of no use; those that were asked are such
            if len(set([bits & bit for bits, _ in mine])) == 2:
                yes = self.plan_for(asked | bit, answers | bit)
                no = self.plan_for(asked | bit, answers)
                depth = 1 + max(yes[0], no[0])
                if best is None or depth < best[0]:
                    best = (depth, ("asks", number, yes[1], no[1]))
        return best


def wrong_at(plan, book, questions, *, known=None):
    """None if the plan is right, otherwise a good in question for which it does not tell the result."""
    check_inquiry(book, questions, known)
    for number in numbers_in(plan.plain):
        if number >= len(questions):
            raise BadRow(number)
    inquiry = Inquiry(book, questions, known)
    for row in inquiry.rows:
        if told_by(plan.plain, row[0]) != row[1]:
            return inquiry.good_of(row)
    return None


def told_by(plain, answers):
    """The result that a plain plan tells of a good with these answers, told as bits."""
    node = plain
    while node[0] == "asks":
        node = node[2] if answers >> node[1] & 1 else node[3]
    return node[1]
