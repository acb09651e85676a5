"""Promises [48], [49], [51]: the house, its days, and trials."""

import unittest

from fallsunder.booktext import read_book
from fallsunder.goodtext import read_good
from fallsunder.house import House, Trial, tried
from fallsunder.termtext import read_term
from tests.samples import caught, fixed_random, small_stock, wide_stock

STOCK = small_stock()
OTHER = wide_stock()
OLD = read_book(STOCK, "heading 1 is mix\nheading 2 is form coat\nheading 3 is any\nrules first")
NEW = read_book(STOCK, "heading 1 is mix\nheading 2 is state worn\nheading 4 is any\nrules first")
STRANGE = read_book(OTHER, "heading 1 is any\nrules")
MIX = read_good(STOCK, "mix far 3 hair")
COAT = read_good(STOCK, "coat whole far (mix far 2 hair)")
WORN = read_good(STOCK, "button worn far (mix far 2 hair)")
BUTTON = read_good(STOCK, "button whole far (mix far 4 wool)")
ALIEN = read_good(OTHER, "mix far 3 hair")
HAIR = read_term("over 0/1 hair").plain
EDITION = ("edition", 3, OLD)
RULING = ("ruling", 4, "a", 9, HAIR, "3")
DEEDS = [EDITION, RULING, ("lot", 5, "l", "3", 7), ("enter", 5, "e", WORN, "l"), ("lift", 6, "a"),
         ("enter", 6, "f", WORN, ""), ("edition", 7, NEW), ("enter", 7, "g", COAT, "l")]


def house_of(deeds, stock=STOCK):
    house = House(stock)
    for deed in deeds:
        house.do(deed)
    return house


def full_house():
    return house_of(DEEDS)


class DeedsTest(unittest.TestCase):
    def test_deeds_stand_in_their_order(self):
        house = full_house()
        self.assertEqual((list(house.standing()), house.many, house.stock), (DEEDS, 8, STOCK))
        self.assertTrue(all(isinstance(deed, tuple) for deed in house.standing()))
        self.assertEqual(house_of([list(deed) for deed in DEEDS]), house)
        self.assertEqual((House(STOCK).many, list(House(STOCK).standing())), (0, []))
        self.assertIsNone(House(STOCK).do(EDITION))

    def test_lists_that_are_changed_afterwards(self):
        deed = list(EDITION)
        house = House(STOCK)
        house.do(deed)
        deed[1] = 99
        deed.append(1)
        self.assertEqual(list(house.standing()), [EDITION])

    def test_equality(self):
        house = full_house()
        again = read_book(small_stock(), "heading 1 is mix\nheading 2 is form coat\nheading 3 is any\nrules first")
        self.assertEqual(house_of([("edition", 3, again), *DEEDS[1:]], small_stock()), house)
        self.assertEqual(house_of([*DEEDS[:3], ("enter", 5, "e", read_good(STOCK, "button worn far (mix far 2 hair)"), "l"),
                                   *DEEDS[4:]]), house)
        for other in (house_of(DEEDS[:-1]), house_of([("edition", 2, OLD), *DEEDS[1:]]), House(OTHER), DEEDS,
                      house_of([*DEEDS[:-1], ("enter", 7, "g", COAT * 2, "l")]), None):
            self.assertFalse(house == other)
        self.assertEqual(House(STOCK), House(small_stock()))
        self.assertFalse(House(STOCK) == House(OTHER))

    def refused(self, house, deed, error):
        """Each deed is refused, as a tuple and as a list, and changes nothing."""
        before = (list(house.standing()), list(house.undone))
        for one in (tuple(deed), list(deed)):
            found = caught(lambda: house.do(one))
            self.assertEqual((found, type(found[1])), (error, type(error[1])), deed)
        self.assertEqual((list(house.standing()), list(house.undone)), before)

    def test_no_deeds(self):
        house = full_house()
        rows = [("edit", 9, OLD), ("close", 9), ("edition", 9), ("edition", 9, OLD, 1), ("ruling", 9, "b", None, HAIR),
                ("lift", 9), ("lift", 9, "a", "b"), ("lot", 9, "m", "3"), ("enter", 9, "h", MIX), ("undo",),
                ("enter", 9, "h", MIX, "", 1), ("", 9, OLD), ("lot", 9), ("edition",)]
        for deed in rows:
            self.refused(house, deed, ("NoDeed", deed[0]))
        for word in (None, 1, True, ("edition",)):
            self.refused(house, (word, 9, OLD), ("NoDeed", word))

    def test_bad_days(self):
        house = full_house()
        rows = [("edition", 6, STRANGE), ("ruling", 6, "A", 1, (), ""), ("lift", 6, "z"), ("lot", 6, "l", "", 0),
                ("enter", 6, "e", ALIEN, "z")]
        for deed in rows:
            for day in (6, -1, 0, 10 ** 9 + 1, True, "7", None, 7.0):
                self.refused(house, (deed[0], day, *deed[2:]), ("BadDay", day))
        house.do(("edition", 7, OLD))
        house.do(("edition", 10 ** 9, OLD))
        self.refused(house, ("edition", 10 ** 9 - 1, OLD), ("BadDay", 10 ** 9 - 1))
        self.refused(House(STOCK), ("edition", -1, OLD), ("BadDay", -1))
        house_of([("edition", 0, OLD), ("edition", 0, NEW)])
        again = full_house()
        again.undo()
        again.undo()
        again.do(("edition", 6, NEW))

    def test_editions(self):
        self.refused(full_house(), ("edition", 8, STRANGE), ("OtherStock", 1))

    def test_rulings(self):
        house = full_house()
        falls, ghost = ("some", ("falls", "1")), ("form", "ghost")
        rows = [(("A", 1, (), "none"), ("BadName", "A")), (("any", 1, (), "none"), ("BadName", "any")),
                ((None, 1, (), "none"), ("BadName", None)), (("", 1, (), "none"), ("BadName", "")),
                (("a", 1, (), "none"), ("Twice", "a")), (("b", 8, (), "none"), ("BadDay", 8)),
                (("b", 7, (), "none"), ("BadDay", 7)), (("b", True, (), "none"), ("BadDay", True)),
                (("b", "-", (), "none"), ("BadDay", "-")), (("b", 9.5, (), "none"), ("BadDay", 9.5)),
                (("b", 9, (), "none"), ("BadTerm", ())), (("b", None, ("not", ["any"]), "none"), ("BadTerm", (0,))),
                (("b", None, read_term("any"), "none"), ("BadTerm", ())),
                (("b", 10 ** 30, ("and", ghost, falls), "none"), ("BareFalls", "1")),
                (("b", 9, ("falls", "2"), "none"), ("BareFalls", "2")), (("b", 9, ghost, "none"), ("Unknown", "ghost")),
                (("b", 9, ("over", "horn", 1, 2), "3"), ("Unknown", "horn")),
                (("b", 9, HAIR, "none"), ("BadName", "none")), (("b", 9, HAIR, ""), ("BadName", "")),
                (("b", 9, HAIR, None), ("BadName", None)), (("b", 9, HAIR, "123456789"), ("BadName", "123456789"))]
        for (name, end, term, heading), error in rows:
            self.refused(house, ("ruling", 8, name, end, term, heading), error)
        house.do(("ruling", 8, "b", 9, HAIR, "nowhere"))
        house.do(("ruling", 8, "e", 10 ** 30, HAIR, "12345678"))

    def test_lifts(self):
        house = full_house()
        for name in ("b", "l", "e", "", None, 1, ("a",), ["a"]):
            self.refused(house, ("lift", 8, name), ("Unknown", name))
        house.do(("lift", 8, "a"))
        house.do(("lift", 8, "a"))

    def test_lots(self):
        house = full_house()
        rows = [(("L", "", 0), ("BadName", "L")), (("l", "", 0), ("Twice", "l")), (("m", "", 0), ("BadName", "")),
                (("m", "Z", 0), ("BadName", "Z")), (("m", "9", 0), ("BadNumber", 0)), (("m", "9", -1), ("BadNumber", -1)),
                (("m", "9", True), ("BadNumber", True)), (("m", "9", "1"), ("BadNumber", "1")),
                (("m", "9", None), ("BadNumber", None))]
        for row, error in rows:
            self.refused(house, ("lot", 8, *row), error)
        house.do(("lot", 8, "a", "9", 1))

    def test_entries(self):
        house = full_house()
        rows = [(("E", ALIEN, "z"), ("BadName", "E")), (("e", ALIEN, "z"), ("Twice", "e")),
                (("h", ALIEN, "z"), ("OtherStock", 1)), (("h", MIX, "z"), ("Unknown", "z")),
                (("h", MIX, None), ("Unknown", None)), (("h", MIX, "a"), ("Unknown", "a"))]
        for row, error in rows:
            self.refused(house, ("enter", 8, *row), error)
        bare = house_of([("lot", 4, "l", "3", 7)])
        self.refused(bare, ("enter", 8, "h", MIX, "z"), ("Unknown", "z"))
        self.refused(bare, ("enter", 8, "h", MIX, "l"), ("NoEdition", 8))
        self.refused(bare, ("enter", 8, "h", MIX, ""), ("NoEdition", 8))

    def test_names_of_deeds_that_were_undone(self):
        house = house_of(DEEDS[:4])
        for deed, other in ((DEEDS[3], ("enter", 5, "e", MIX, "")), (DEEDS[2], ("lot", 5, "l", "4", 1)),
                            (DEEDS[1], ("ruling", 5, "a", None, HAIR, "1"))):
            self.assertEqual(caught(lambda: house.do(deed[:1] + (5,) + deed[2:])), ("Twice", deed[2]))
            house.undo()
            house.do(other)
            house.undo()
        house.undo()
        self.assertEqual(house.many, 0)
        self.assertEqual(caught(lambda: house.do(("lift", 5, "a"))), ("Unknown", "a"))


class DaysTest(unittest.TestCase):
    def test_editions(self):
        house = full_house()
        self.assertEqual([house.edition_on(day) == OLD for day in (3, 4, 6)], [True] * 3)
        self.assertEqual([house.edition_on(day) == NEW for day in (7, 8, 10 ** 12)], [True] * 3)
        for day in (2, 0, -1):
            self.assertEqual(caught(lambda: house.edition_on(day)), ("NoEdition", day))
        house.do(("edition", 7, OLD))
        self.assertEqual(house.edition_on(7), OLD)

    def test_rulings(self):
        house = house_of([("ruling", 1, "a", 5, HAIR, "3"), ("ruling", 2, "b", None, ("mix",), "1"),
                          ("ruling", 2, "c", 3, ("any",), "2"), ("lift", 2, "c"), ("lift", 4, "b")])
        told = {day: [row[0] for row in house.rulings_on(day)] for day in range(7)}
        self.assertEqual(told, {0: [], 1: ["a"], 2: ["a", "b"], 3: ["a", "b"], 4: ["a"], 5: [], 6: []})
        self.assertEqual(house.rulings_on(2), (("a", HAIR, "3"), ("b", ("mix",), "1")))
        house.do(("lift", 4, "b"))
        self.assertEqual([row[0] for row in house.rulings_on(3)], ["a", "b"])
        self.assertEqual(caught(lambda: house.do(("ruling", 6, "c", None, ("any",), "2"))), ("Twice", "c"))
        self.assertEqual(House(STOCK).rulings_on(3), ())

    def test_results(self):
        house = house_of(DEEDS)
        self.assertEqual([house.result_on(day, WORN) for day in (3, 4, 5, 6, 7, 99)], ["3", "3", "3", "3", "2", "2"])
        self.assertEqual([house.result_on(day, MIX) for day in (3, 4, 5, 6)], ["1", "3", "3", "1"])
        self.assertEqual(caught(lambda: house.result_on(2, ALIEN)), ("OtherStock", 2))
        self.assertEqual(caught(lambda: house.result_on(2, MIX)), ("NoEdition", 2))
        # the heading of a ruling must be a leaf of the edition in force: the next ruling is asked
        house = house_of([EDITION, ("ruling", 3, "a", None, HAIR, "4"), ("ruling", 3, "b", None, ("form", "button"), "1"),
                          ("edition", 5, NEW)])
        self.assertEqual([house.result_on(3, one) for one in (MIX, COAT, WORN, BUTTON)], ["1", "2", "1", "1"])
        self.assertEqual([house.result_on(5, one) for one in (MIX, COAT, WORN, BUTTON)], ["4", "4", "4", "1"])
        nested = read_book(STOCK, "heading 1 is any\nheading 2 under 1 is any\nrules")
        house.do(("edition", 6, nested))
        house.do(("ruling", 6, "c", None, ("any",), "2"))
        self.assertEqual([house.result_on(6, one) for one in (MIX, BUTTON)], ["2", "2"])

    def test_parts_have_their_results_by_the_edition_alone(self):
        book = read_book(STOCK, "heading 1 is mix\nheading 2 is any\nheading 3 is any\nnote 2 sends 3 if some falls 1\n"
                                "rules first")
        house = house_of([("edition", 1, book), ("ruling", 1, "a", None, ("mix",), "2")])
        self.assertEqual((house.result_on(1, MIX), house.result_on(1, COAT)), ("2", "3"))

    def test_told(self):
        house = full_house()
        self.assertEqual([house.told(name) for name in "efg"], ["3", "3", "4"])
        for name in ("a", "l", "z", "", None, ("e",), ["e"]):
            self.assertEqual(caught(lambda: house.told(name)), ("Unknown", name))
        # deeds of the day of an entry that are done later count, too
        house.do(("ruling", 7, "b", None, ("form", "coat"), "1"))
        self.assertEqual(house.told("g"), "1")
        house.do(("edition", 7, OLD))
        self.assertEqual(house.told("g"), "1")
        house.do(("lift", 7, "b"))
        self.assertEqual((house.told("g"), house.told("f")), ("2", "3"))
        house.do(("edition", 8, NEW))
        self.assertEqual(house.told("g"), "2")
        house.undo()
        house.undo()
        house.undo()
        house.undo()
        self.assertEqual(house.told("g"), "4")

    def test_sums(self):
        house = full_house()
        self.assertEqual(house.sums(0, 99), (("3", 4), ("4", 2)))
        self.assertEqual(house.sums(5, 5), (("3", 2),))
        self.assertEqual(house.sums(7, 10 ** 9), (("4", 2),))
        for first, last in ((0, 4), (8, 99), (7, 5), (99, 0)):
            self.assertEqual(house.sums(first, last), ())
        house.do(("enter", 7, "h", BUTTON * 10, ""))
        self.assertEqual(house.sums(6, 7), (("3", 2), ("4", 42)))


class UndoTest(unittest.TestCase):
    def test_undo_and_again(self):
        house = full_house()
        for many in range(7, -1, -1):
            self.assertIsNone(house.undo())
            self.assertEqual(list(house.standing()), DEEDS[:many])
        self.assertEqual(caught(house.undo), ("NoDeed", "undo"))
        for many in range(1, 9):
            self.assertIsNone(house.again())
            self.assertEqual(list(house.standing()), DEEDS[:many])
        self.assertEqual(caught(house.again), ("NoDeed", "again"))
        self.assertEqual(house, full_house())
        self.assertEqual([house.told(name) for name in "efg"], ["3", "3", "4"])

    def test_refused_deeds_leave_what_can_be_done_again(self):
        house = full_house()
        house.undo()
        house.undo()
        for deed in (("lift", 9, "z"), ("edition", 1, OLD), ("x",), ("enter", 9, "e", MIX, "")):
            self.assertIsNotNone(caught(lambda: house.do(deed)))
        house.again()
        self.assertEqual(list(house.standing()), DEEDS[:7])
        house.do(("lift", 9, "a"))
        self.assertEqual(caught(house.again), ("NoDeed", "again"))
        house.undo()
        house.again()
        self.assertEqual(list(house.standing()), [*DEEDS[:7], ("lift", 9, "a")])

    def test_copies(self):
        house = full_house()
        house.undo()
        twin = house.copy()
        self.assertEqual(twin, house)
        twin.again()
        self.assertEqual((twin.many, house.many), (8, 7))
        house.again()
        self.assertEqual(twin, house)
        twin.undo()
        twin.undo()
        house.do(("lot", 8, "m", "3", 7))
        self.assertEqual((twin.many, house.many), (6, 9))
        twin.do(("lot", 8, "m", "3", 1))
        self.assertEqual(caught(twin.again), ("NoDeed", "again"))
        self.assertEqual(house.copy().standing().__next__(), EDITION)


class TrialTest(unittest.TestCase):
    def test_a_trial(self):
        house = full_house()
        house.undo()
        with Trial(house) as held:
            self.assertTrue(held is house)
            held.again()
            held.do(("enter", 9, "h", MIX, "l"))
            held.undo()
            self.assertEqual(house.many, 8)
        self.assertEqual(list(house.standing()), DEEDS[:7])
        house.again()
        self.assertEqual(house, full_house())

    def test_it_begins_where_it_is_entered(self):
        house = house_of(DEEDS[:3])
        trial = Trial(house)
        house.do(DEEDS[3])
        with trial:
            house.undo()
            house.undo()
            house.do(("lot", 9, "m", "3", 7))
            self.assertEqual(caught(house.again), ("NoDeed", "again"))
        self.assertEqual(list(house.standing()), DEEDS[:4])
        self.assertEqual(caught(house.again), ("NoDeed", "again"))
        with trial as held:
            held.undo()
            with trial as inner:
                inner.undo()
                self.assertEqual(house.many, 2)
            self.assertEqual(house.many, 3)
            held.again()
        self.assertEqual(list(house.standing()), DEEDS[:4])
        self.assertEqual(caught(lambda: house.do(("lot", 9, "l", "3", 7))), ("Twice", "l"))
        house.do(("lot", 9, "m", "3", 7))

    def test_trials_within_trials(self):
        house = full_house()
        with Trial(house):
            house.undo()
            with Trial(house) as inner:
                inner.undo()
                inner.undo()
                self.assertEqual(house.many, 5)
            self.assertEqual(house.many, 7)
            house.again()
            self.assertEqual(house, full_house())
            house.undo()
        self.assertEqual(house, full_house())
        self.assertEqual(caught(house.again), ("NoDeed", "again"))

    def test_a_trial_that_an_error_leaves(self):
        house = full_house()
        house.undo()
        with self.assertRaises(ZeroDivisionError):
            with Trial(house):
                house.undo()
                with Trial(house):
                    house.do(("edition", 9, OLD))
                    raise ZeroDivisionError
        self.assertEqual(list(house.standing()), DEEDS[:7])
        house.again()
        self.assertEqual(list(house.standing()), DEEDS)

    def test_names_in_trials(self):
        house = house_of(DEEDS[:3])
        with Trial(house):
            house.do(DEEDS[3])
            self.assertEqual(house.told("e"), "3")
        self.assertEqual(caught(lambda: house.told("e")), ("Unknown", "e"))
        with Trial(house):
            house.undo()
            house.do(("lot", 5, "l", "4", 9))
        self.assertEqual(caught(lambda: house.do(("lot", 5, "l", "4", 9))), ("Twice", "l"))


class TriedTest(unittest.TestCase):
    def test_steps(self):
        house = house_of(DEEDS[:5])
        steps = [DEEDS[5], "undo", "undo", [DEEDS[5], ["undo", "undo"], "undo"], "again", DEEDS[5]]
        copies = tried(house, steps)
        self.assertEqual([list(one.standing()) for one in copies], [DEEDS[:3], DEEDS[:4], DEEDS[:6]])
        self.assertEqual(list(house.standing()), DEEDS[:5])
        self.assertEqual(copies[0].many, 3)
        copies[2].undo()
        self.assertEqual(house.many, 5)
        self.assertEqual(tried(house, []), (house,))
        self.assertIsNot(tried(house, [])[0], house)
        self.assertEqual([one.many for one in tried(house, [[], [[]]])], [5, 5, 5, 5])
        self.assertEqual(steps[0], DEEDS[5])

    def test_what_can_be_done_again_in_the_copies(self):
        house = house_of(DEEDS[:5])
        house.undo()
        copies = tried(house, ["again", ["undo", "undo"], "undo"])
        self.assertEqual([one.many for one in copies], [3, 4])
        copies[0].again()
        copies[0].again()
        self.assertEqual(list(copies[0].standing()), DEEDS[:5])
        copies[1].again()
        self.assertEqual(caught(copies[1].again), ("NoDeed", "again"))
        house.again()
        self.assertEqual(list(house.standing()), DEEDS[:5])

    def test_refused_steps(self):
        house = house_of(DEEDS[:5])
        house.undo()
        rows = [(["again", "again"], ("NoDeed", "again")), ([["undo"] * 5], ("NoDeed", "undo")),
                ([[[("lift", 9, "z")]]], ("Unknown", "z")), ([("lift", 9, "a"), ("lift", 8, "a")], ("BadDay", 8)),
                ([("x", 9)], ("NoDeed", "x")), ([("lift", 9, "a"), "again"], ("NoDeed", "again"))]
        for steps, error in rows:
            self.assertEqual(caught(lambda: tried(house, steps)), error)
            self.assertEqual(list(house.standing()), DEEDS[:4])
        house.again()
        self.assertEqual(list(house.standing()), DEEDS[:5])

    def test_eight_lists(self):
        house = house_of(DEEDS)
        steps = ["undo"]
        for _ in range(8):
            steps = ["undo", steps] if len(steps) < 3 and _ < 7 else [steps]
        copies = tried(house, steps)
        self.assertEqual(len(copies), 9)
        self.assertEqual(house, full_house())

    def test_random_houses(self):
        """A house against the row of its deeds, kept apart from it."""
        rng = fixed_random(49)
        for _ in range(30):
            house, deeds, gone = House(STOCK), [], []
            for turn in range(40):
                step = rng.choice(["do", "do", "do", "undo", "again", "try"])
                if step == "do":
                    deed = self.random_deed(rng, turn)
                    fits = caught(lambda: house_of([*deeds, deed]))
                    self.assertEqual(caught(lambda: house.do(deed)), fits)
                    if fits is None:
                        deeds, gone = [*deeds, deed], []
                elif step == "try":
                    with Trial(house):
                        for word in rng.choices(["undo", "again"], k=5):
                            caught(house.undo if word == "undo" else house.again)
                        caught(lambda: house.do(("edition", 1000, OLD)))
                elif step == "undo" and deeds:
                    house.undo()
                    gone.append(deeds.pop())
                elif step == "again" and gone:
                    house.again()
                    deeds.append(gone.pop())
                self.assertEqual(list(house.standing()), deeds)
                self.assertEqual(house, house_of(deeds))
                for day in (turn // 2, turn):
                    self.assertEqual(house.rulings_on(day), house_of(deeds).rulings_on(day))

    def random_deed(self, rng, turn):
        day = turn // 2 + rng.choice([-2, 0, 0, 1])
        name = rng.choice("abcdefgh")
        return rng.choice([("edition", day, rng.choice([OLD, NEW])),
                           ("ruling", day, name, rng.choice([None, day + 2]), HAIR, rng.choice("1234")),
                           ("lift", day, name), ("lot", day, name, rng.choice("1234"), rng.randint(0, 5)),
                           ("enter", day, name, rng.choice([MIX, COAT, WORN]), rng.choice(["", name]))])


if __name__ == "__main__":
    unittest.main()
