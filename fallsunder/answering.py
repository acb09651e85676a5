"""What terms and books say of one good, told from its mixes up."""

from fallsunder.goods import good_nodes
from fallsunder.sheets import share_holds, work_falls, work_out


def answers_of(sheet, desks, good):
    """The worths of all cells for a good (0 or 1), and its results by the books at the desks, by their owners."""
    return all_answers(sheet, desks, good)[0]


def all_answers(sheet, desks, good):
    """Such answers for all nodes of a good, in the order of a walk."""
    out = []
    done = []
    for node in good_nodes(good)[::-1]:
        below = []
        for _ in node:
            below.append(done.pop())
        out.append(node_answers(sheet, desks, node, below))
        done.append(out[len(out) - 1])
    return out[::-1]


def node_answers(sheet, desks, node, below):
    """The answers for one node, from those for its parts."""
    return answers_in_state(sheet, desks, node, below, node.state)


def answers_in_state(sheet, desks, node, below, state):
    """The answers for a node as it would be in this state, from those for its parts."""
    values = [0 for _ in sheet.cells]
    for number, word, about in sheet.simple:
        values[number] = simple_worth(word, about, node, state)
    for number in sheet.shares:
        values[number] = share_worth(sheet, number, node, below)
    for number, word, inner in sheet.looks:
        values[number] = look_worth(word, [part[0][inner] for part in below], node.main)
    work_out(values, 1, sheet.early)
    results = {}
    for owner, desk in desks.items():
        main = below[node.main][1][owner] if below else ""
        results[owner] = desk.result_of(values, main)
    work_falls(sheet, desks, values, {owner: [(1, name)] for owner, name in results.items()})
    work_out(values, 1, sheet.late)
    return (values, results)


def simple_worth(word, about, node, state):
    """The worth of a cell that looks at the node alone, in this state."""
    if word == "any":
        return 1
    if word == "mix":
        return 1 if node.root == "mix" else 0
    if word == "form":
        return 1 if node.root == about else 0
    if word == "state":
        return 1 if state == about else 0
    if word == "parts":
        return 1 if node.many >= about else 0
    return 0


def share_worth(sheet, number, node, below):
    """The worth of a share, which a thing has from its main part."""
    if below:
        return below[node.main][0][number]
    row = sheet.cells[number]
    grams = sum([pair[1] for pair in node.plain[2] if pair[0] == row[1]])
    return 1 if share_holds(row, grams, node.weight) else 0


def look_worth(word, worths, main):
    """The worth of a part sign over what the parts have."""
    if word == "some":
        return 1 if 1 in worths else 0
    if word == "each":
        return 0 if 0 in worths else 1
    return worths[main] if worths else 0
