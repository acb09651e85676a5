"""Promise [50]: free lots."""

import unittest

from fallsunder.booktext import read_book
from fallsunder.freelots import granted, left, served, used_up
from fallsunder.goodtext import read_good
from fallsunder.house import House, Trial
from tests.samples import caught, fixed_random, small_stock
from tests.test_house import BUTTON, COAT, HAIR, MIX, NEW, OLD, STOCK, WORN, house_of


def lots(house, name):
    return (tuple(served(house, name)), left(house, name), used_up(house, name))


class LotTest(unittest.TestCase):
    def test_entries_are_served_in_order(self):
        house = house_of([("edition", 1, OLD), ("lot", 1, "l", "3", 7), ("enter", 1, "a", WORN, "l"),
                          ("enter", 2, "b", BUTTON, "l"), ("enter", 2, "c", BUTTON, "l"), ("enter", 2, "d", WORN, "l")])
        self.assertEqual(lots(house, "l"), ((("a", 2), ("b", 4), ("c", 1), ("d", 0)), 0, "c"))
        self.assertEqual([granted(house, name) for name in "abcd"], [2, 4, 1, 0])
        house.undo()
        house.undo()
        self.assertEqual(lots(house, "l"), ((("a", 2), ("b", 4)), 1, ""))

    def test_a_lot_that_ends_exactly(self):
        house = house_of([("edition", 1, OLD), ("lot", 1, "l", "3", 6), ("enter", 1, "a", WORN, "l"),
                          ("enter", 2, "b", BUTTON, "l"), ("enter", 2, "c", BUTTON, "l")])
        self.assertEqual(lots(house, "l"), ((("a", 2), ("b", 4), ("c", 0)), 0, "b"))

    def test_a_lot_that_no_one_claims(self):
        house = house_of([("edition", 1, OLD), ("lot", 1, "l", "3", 7), ("enter", 1, "a", WORN, "")])
        self.assertEqual(lots(house, "l"), ((), 7, ""))
        self.assertEqual(granted(house, "a"), 0)

    def test_goods_that_are_not_beneath_the_heading(self):
        house = house_of([("edition", 1, OLD), ("lot", 1, "l", "3", 7), ("lot", 1, "m", "4", 7),
                          ("enter", 1, "a", MIX, "l"), ("enter", 1, "b", WORN, "m"), ("enter", 2, "c", WORN, "l"),
                          ("edition", 3, NEW), ("enter", 3, "d", BUTTON, "l"), ("enter", 3, "e", BUTTON, "m"),
                          ("enter", 3, "f", WORN, "m")])
        self.assertEqual(lots(house, "l"), ((("a", 0), ("c", 2), ("d", 0)), 5, ""))
        self.assertEqual(lots(house, "m"), ((("b", 0), ("e", 4), ("f", 0)), 3, ""))
        # the edition of the day of an entry is asked, also if it comes later on this day
        house.do(("edition", 3, OLD))
        self.assertEqual(lots(house, "l"), ((("a", 0), ("c", 2), ("d", 4)), 1, ""))
        self.assertEqual(lots(house, "m"), ((("b", 0), ("e", 0), ("f", 0)), 7, ""))
        house.do(("ruling", 3, "r", None, HAIR, "1"))
        self.assertEqual(lots(house, "l"), ((("a", 0), ("c", 2), ("d", 4)), 1, ""))

    def test_headings_above_and_results_without_a_leaf(self):
        book = read_book(STOCK, "heading 1 is parts 1\nheading 1a under 1 is form coat\nheading 1b under 1 is state worn\n"
                                "heading 2 is parts 2\nrules")
        house = house_of([("edition", 1, book), ("lot", 1, "l", "1", 100), ("enter", 1, "a", COAT, "l"),
                          ("enter", 1, "b", WORN, "l"), ("enter", 1, "c", MIX, "l"), ("enter", 1, "d", BUTTON, "l"),
                          ("enter", 1, "e", read_good(STOCK, "coat worn far (mix far 1 hair)"), "l")])
        self.assertEqual([house.told(name) for name in "abcde"], ["1a", "1b", "none", "none", "two"])
        self.assertEqual(lots(house, "l"), ((("a", 2), ("b", 2), ("c", 0), ("d", 0), ("e", 0)), 96, ""))
        house.do(("ruling", 1, "r", None, ("mix",), "1b"))
        self.assertEqual(granted(house, "c"), 3)

    def test_names(self):
        house = house_of([("edition", 1, OLD), ("lot", 1, "l", "3", 7), ("enter", 1, "a", WORN, "l"),
                          ("ruling", 1, "r", None, HAIR, "3")])
        for name in ("a", "r", "x", "", None, 1, ("l",), ["l"]):
            for call in (left, used_up, lambda *row: list(served(*row))):
                self.assertEqual(caught(lambda: call(house, name)), ("Unknown", name))
        for name in ("l", "r", "x", "", None, ["a"]):
            self.assertEqual(caught(lambda: granted(house, name)), ("Unknown", name))

    def test_nothing_is_done_before_it_is_iterated(self):
        house = house_of([("edition", 1, OLD)])
        rows = served(house, "l")
        self.assertEqual(caught(lambda: list(rows)), ("Unknown", "l"))
        later = served(house, "l")
        house.do(("lot", 1, "l", "3", 7))
        house.do(("enter", 1, "a", WORN, "l"))
        self.assertEqual(list(later), [("a", 2)])
        standing = house.standing()
        house.undo()
        self.assertEqual(len(list(standing)), 2)

    def test_trials(self):
        house = house_of([("edition", 1, OLD), ("lot", 1, "l", "3", 3), ("enter", 1, "a", WORN, "l")])
        with Trial(house):
            house.do(("enter", 1, "b", WORN, "l"))
            self.assertEqual((left(house, "l"), used_up(house, "l")), (0, "b"))
        self.assertEqual((left(house, "l"), used_up(house, "l")), (1, ""))

    def test_random_lots(self):
        rng = fixed_random(50)
        for _ in range(40):
            house = House(small_stock())
            house.do(("edition", 0, rng.choice([OLD, NEW])))
            rest = {}
            for name in "lmn":
                rest[name] = rng.randint(1, 12)
                house.do(("lot", 0, name, rng.choice("123"), rest[name]))
            for k in range(rng.randint(0, 15)):
                house.do(("enter", k // 3, "e" + "abcdefghijklmno"[k], rng.choice([MIX, COAT, WORN, BUTTON]),
                          rng.choice(["l", "m", "n", ""])))
                if rng.random() < 0.2:
                    house.do(("edition", k // 3, rng.choice([OLD, NEW])))
            heads = {deed[2]: deed[3] for deed in house.standing() if deed[0] == "lot"}
            last = {}
            for deed in house.standing():
                if deed[0] == "enter":
                    given = 0
                    if deed[4] and house.told(deed[2]) == heads[deed[4]] in house.edition_on(deed[1]).leaves:
                        given = min(deed[3].weight, rest[deed[4]])
                        rest[deed[4]] -= given
                        if given:
                            last[deed[4]] = deed[2]
                    self.assertEqual(granted(house, deed[2]), given)
            for name in "lmn":
                self.assertEqual(left(house, name), rest[name])
                self.assertEqual(used_up(house, name), last[name] if rest[name] == 0 else "")


if __name__ == "__main__":
    unittest.main()
