"""Free lots: how many grams entries are given."""


def claims_of(house, name):
    """Rows (entry, grams) for all entries that claim a lot, in the order of their deeds."""
    _, _, _, heading, rest = house.named("lot", name)
    days = {}
    out = []
    for row in list(house.rows):
        deed = row.deed
        if deed[0] == "enter" and deed[4] == name:
            if deed[1] not in days:
                days[deed[1]] = house.rules_on(deed[1])
            given = min(rest, deed[3].weight) if is_beneath(days[deed[1]], deed[3], heading) else 0
            rest = rest - given
            out.append((deed[2], given))
    return out


def is_beneath(rules, good, heading):
    """Is the result of a good by the DayRules of its day a leaf beneath a heading of their book?"""
    return heading in rules.book and rules.result_for(good) in rules.book.beneath(heading)


def granted(house, name):
    """The grams that an entry is given."""
    lot = house.named("enter", name)[4]
    return 0 if lot == "" else dict(claims_of(house, lot))[name]


def left(house, name):
    """What is left of a lot."""
    return house.named("lot", name)[4] - sum([given for _, given in claims_of(house, name)])


def used_up(house, name):
    """The name of the entry that took the last gram of a lot, or ""."""
    rows = claims_of(house, name)
    if left(house, name) > 0:
        return ""
    takers = [entry for entry, given in rows if given > 0]
    return takers[len(takers) - 1]


def served(house, name):
    """Rows (entry, grams) for all entries that claim a lot, in the order of their deeds."""
    for row in claims_of(house, name):
        yield row
