"""Marks and kinds of goods, what makings of kinds give, and the tables that are closed."""

from fallsunder.answering import answers_of
from fallsunder.benches import Pack
from fallsunder.books import RESULTS
from fallsunder.closing import kind_at, leading_making, leading_mixture, record_of
from fallsunder.errors import BadRow, OtherStock
from fallsunder.goods import sound_good
from fallsunder.mixcells import lightest_grams, plain_mix
from fallsunder.sheets import Sheet
from fallsunder.surveys import Survey
from fallsunder.watching import Watch, check_watchers


def marks(stock, watchers):
    """The marks of the watchers: rows of `(plain term, owner)`."""
    check_watchers(stock, watchers)
    return tuple([(plain, owner) for plain, owner, _ in Watch(stock, watchers, Sheet()).marks()])


def kind_of(stock, watchers, good):
    """The kind of a good."""
    if good.stock != stock:
        raise OtherStock(2)
    check_watchers(stock, watchers)
    watch = Watch(stock, watchers, Sheet())
    cells = mark_cells(watch)
    values, results = answers_of(watch.sheet, watch.desks, good)
    return (good.root, tuple([values[cell] == 1 for cell in cells]), tuple([results[k] for k in watch.owners]))


def mark_cells(watch):
    """The cells of the marks, in their order."""
    return [cell for _, _, cell in watch.marks()]


def gives(stock, watchers, making):
    """The kind that a making gives."""
    check_watchers(stock, watchers)
    form, state, rows, main = making
    for number, row in enumerate(rows):
        if row[0] not in stock[form][2]:
            raise BadRow(number)
    watch = Watch(stock, watchers, Sheet())
    cells = mark_cells(watch)
    bench = watch.own_bench()
    records = [record_of(bench, watch, cells, row) for row in rows]
    some = 0
    each = bench.each_mask
    for bits, _ in records:
        some = some | bits & bench.some_mask
        each = each & bits
    answers = bench.things([(form, state)], len(rows), Pack(bench, [main], [records[main]]), (some, each))
    return kind_at(answers, 0, form, cells, watch.owners)


def paper(stock, watchers):
    """The kinds of all goods, ascending."""
    check_watchers(stock, watchers)
    watch = Watch(stock, watchers, Sheet())
    cells = mark_cells(watch)
    survey = Survey(stock, watch.sheet, watch.desks, (cells, watch.owners), rooted=True)
    return tuple(sorted([kind_row(key, len(cells)) for key in survey.rows]))


def kind_row(key, many):
    """The kind that a survey tells with the bits of its marks."""
    return (key[0], tuple([key[1] >> k & 1 == 1 for k in range(many)]), key[2])


def leads_out(stock, watchers, rows):
    """None if the table is closed, otherwise a mix or a making of its rows with a kind that is not in it."""
    check_watchers(stock, watchers)
    watch = Watch(stock, watchers, Sheet())
    cells = mark_cells(watch)
    for number, row in enumerate(rows):
        if not is_kind(stock, watch, cells, row):
            raise BadRow(number)
    bench = watch.own_bench()
    found = leading_mixture(bench, watch.owners, cells, rows)
    if found is not None:
        grams = lightest_grams(bench.mixtures[found[0]][1])
        return (sound_good(stock, plain_mix(stock.stuffs, stock.lands[0], grams)), found[1])
    return leading_making(bench, watch, cells, rows)


def is_kind(stock, watch, cells, row):
    """Has it the form of a kind?"""
    if not isinstance(row, tuple) or len(row) != 3 or not isinstance(row[0], str):
        return False
    if row[0] != "mix" and row[0] not in [form[0] for form in stock.forms]:
        return False
    if not isinstance(row[1], tuple) or len(row[1]) != len(cells) or not isinstance(row[2], tuple):
        return False
    if not all([isinstance(truth, bool) for truth in row[1]]) or len(row[2]) != len(watch.owners):
        return False
    return all([is_result(watch.watchers[owner], name) for owner, name in zip(watch.owners, row[2])])


def is_result(book, name):
    """Is it a leaf of the book, or one of the other results?"""
    return isinstance(name, str) and (name in book.leaves or name in RESULTS)
