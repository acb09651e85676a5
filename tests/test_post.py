"""Promise [53]: posts."""

import itertools
import unittest

from fallsunder.errors import Forged
from fallsunder.house import House
from fallsunder.post import Post
from tests.samples import caught, fixed_random, small_stock, wide_stock
from tests.test_house import ALIEN, BUTTON, COAT, HAIR, MIX, NEW, OLD, OTHER, STOCK, STRANGE, WORN, house_of

LETTERS = [("ann", 1, ("edition", 1, OLD)), ("ann", 2, ("lot", 2, "l", "3", 5)), ("ann", 3, ("close", 3)),
           ("bob", 1, ("enter", 1, "a", WORN, "")), ("bob", 2, ("enter", 2, "b", WORN, "l")), ("bob", 3, ("close", 2)),
           ("bob", 4, ("enter", 3, "c", BUTTON, "l")), ("bob", 5, ("close", 5))]
DEEDS = [LETTERS[k][2] for k in (0, 3, 1, 4, 6)]


def post_of(letters, offices=("ann", "bob")):
    post = Post(STOCK, offices)
    for letter in letters:
        post.take(*letter)
    return post


class TakeTest(unittest.TestCase):
    def test_letters_in_all_orders(self):
        whole = post_of(LETTERS)
        rng = fixed_random(53)
        for _ in range(60):
            some = rng.sample(LETTERS, len(LETTERS))
            post = post_of(some + rng.sample(LETTERS, 3))
            self.assertEqual((list(post.house().standing()), post.refused(), post.settled()), (DEEDS, (), 3))
            self.assertEqual((post, post.many), (whole, 8))
        self.assertEqual((whole.stock, whole.offices), (STOCK, ("ann", "bob")))

    def test_new_letters_and_letters_told_twice(self):
        post = Post(STOCK, ["ann", "bob"])
        for many, letter in enumerate(LETTERS):
            self.assertIs(post.take(*letter), True)
            self.assertIs(post.take(letter[0], letter[1], list(letter[2])), False)
            self.assertEqual(post.many, many + 1)
        self.assertEqual(post, post_of([(office, number, list(deed)) for office, number, deed in LETTERS]))
        self.assertTrue(all(isinstance(deed, tuple) for deed in post.house().standing()))

    def test_lists_that_are_changed_afterwards(self):
        deed, offices = ["lot", 2, "l", "3", 5], ["ann"]
        post = Post(STOCK, offices)
        post.take("ann", 1, deed)
        deed[4] = 77
        offices.append("bob")
        self.assertEqual((list(post.house().standing()), post.offices), ([("lot", 2, "l", "3", 5)], ("ann",)))
        house = post.house()
        house.undo()
        self.assertEqual((post.house().many, house.many), (1, 0))

    def test_forged_letters(self):
        post = post_of(LETTERS)
        rows = [("ann", 1, ("edition", 1, NEW)), ("ann", 1, ("edition", 2, OLD)), ("ann", 2, ("close", 3)),
                ("ann", 2, ("lot", 2, "l", "3", True)), ("bob", 1, ("enter", 1, "a", WORN, "l")),
                ("bob", 2, ("enter", 2, "b", WORN * 2, "l")), ("bob", 3, ("close", 3)), ("ann", 2, ["lot", 2, "l", "3", 6])]
        for office, number, deed in rows:
            self.assertEqual(caught(lambda: post.take(office, number, deed)), ("Forged", office, number))
        self.assertEqual(post, post_of(LETTERS))
        one = post_of([("ann", 1, ("lot", 2, "l", "3", True))])
        self.assertEqual(caught(lambda: one.take("ann", 1, ("lot", 2, "l", "3", 1))), ("Forged", "ann", 1))

    def test_order_of_errors(self):
        post = post_of(LETTERS)
        for office in ("eve", "", None, 1, ("ann",), ["ann"]):
            self.assertEqual(caught(lambda: post.take(office, 0, ("x",))), ("Unknown", office))
        for number in (0, -1, True, "1", None, 1.0):
            found = caught(lambda: post.take("ann", number, ("x",)))
            self.assertEqual((found, type(found[1])), (("BadNumber", number), type(number)))
        for deed in (("x", 1), ("undo",), ("close",), ("close", 1, 2), ("edition", -1), ("lot", -1, "l", "3"), ("", 1)):
            self.assertEqual(caught(lambda: post.take("ann", 1, deed)), ("NoDeed", deed[0]))
            self.assertEqual(caught(lambda: post.take("ann", 9, list(deed))), ("NoDeed", deed[0]))
        for day in (-1, 10 ** 9 + 1, True, None, "3"):
            for deed in (("close", day), ("edition", day, STRANGE), ("lift", day, "a")):
                self.assertEqual(caught(lambda: post.take("ann", 1, deed)), ("BadDay", day))
        self.assertEqual(caught(lambda: post.take("ann", 1, ("close", 1))), ("Forged", "ann", 1))
        # nothing else is asked: the house refuses it
        self.assertTrue(post.take("ann", 9, ("enter", 9, "A", ALIEN, 7)))
        self.assertTrue(post.take("ann", 8, ["ruling", 9, "r", None, ["any"], "3"]))
        self.assertEqual(post.refused(), (("ann", 8), ("ann", 9)))

    def test_offices(self):
        rows = [(["ann", "A"], ("BadName", "A")), (["ann", "ann", "any"], ("BadName", "any")), (["ann", "ann"], ("Twice", "ann")),
                ([1], ("BadName", 1)), (["bob", "ann", "bob", "ann"], ("Twice", "bob"))]
        for offices, error in rows:
            self.assertEqual(caught(lambda: Post(STOCK, offices)), error)
        self.assertEqual(Post(STOCK, ("hair", "is", "coat", "lot", "a", "b")).many, 0)


class PlayedTest(unittest.TestCase):
    def test_letters_that_are_refused_at_their_turn(self):
        letters = [("ann", 1, ("enter", 1, "a", MIX, "")), ("bob", 1, ("edition", 1, OLD)),
                   ("ann", 2, ("lift", 2, "r")), ("bob", 2, ("ruling", 2, "r", None, HAIR, "3")),
                   ("bob", 3, ("enter", 2, "a", MIX, "")), ("ann", 3, ("enter", 2, "a", COAT, "")),
                   ("ann", 4, ("lift", 3, "r")), ("ann", 5, ("edition", 3, STRANGE))]
        for some in itertools.islice(itertools.permutations(letters), 0, 40320, 1009):
            post = post_of(some)
            self.assertEqual(post.refused(), (("ann", 1), ("ann", 2), ("bob", 3), ("ann", 5)))
            self.assertEqual(list(post.house().standing()), [letters[k][2] for k in (1, 5, 3, 6)])
        self.assertEqual(post.house().told("a"), "3")

    def test_the_house_is_new_each_time(self):
        post = post_of(LETTERS)
        house = post.house()
        house.do(("lift", 9, "a")) if house.rulings_on(9) else house.undo()
        self.assertEqual(list(post.house().standing()), DEEDS)
        self.assertEqual(post.house(), house_of(DEEDS))
        for _ in DEEDS[1:]:
            house.undo()
        self.assertEqual(house, House(STOCK))
        self.assertEqual(Post(STOCK, ["ann"]).house(), House(STOCK))


class SettledTest(unittest.TestCase):
    def test_none_is_settled(self):
        self.assertEqual(Post(STOCK, ["ann"]).settled(), -1)
        self.assertEqual(post_of(LETTERS[:3]).settled(), -1)
        self.assertEqual(post_of(LETTERS[1:]).settled(), -1)
        self.assertEqual(post_of([("ann", 1, ("close", 0)), ("bob", 1, ("close", 5))]).settled(), 0)

    def test_letters_that_lack(self):
        self.assertEqual(post_of(LETTERS).settled(), 3)
        self.assertEqual(post_of([letter for letter in LETTERS if letter[:2] != ("bob", 4)]).settled(), 2)
        self.assertEqual(post_of([letter for letter in LETTERS if letter[:2] != ("bob", 3)]).settled(), -1)
        self.assertEqual(post_of([letter for letter in LETTERS if letter[:2] != ("bob", 1)]).settled(), -1)
        post = post_of(LETTERS)
        post.take("bob", 9, ("close", 99))
        post.take("ann", 4, ("close", 99))
        self.assertEqual(post.settled(), 5)
        self.assertEqual(post_of([("ann", 1, ("close", 7)), ("ann", 2, ("close", 4))], ["ann"]).settled(), 7)

    def test_nothing_told_about_a_settled_day_changes(self):
        rng = fixed_random(54)
        for _ in range(40):
            letters = self.random_letters(rng)
            post = Post(STOCK, ["ann", "bob"])
            facts = {}
            for letter in rng.sample(letters, len(letters)):
                post.take(*letter)
                house = post.house()
                for day in range(post.settled() + 1):
                    told = [house.rulings_on(day), house.sums(0, day), caught(lambda: house.edition_on(day))]
                    told += [house.told(deed[2]) for deed in house.standing() if deed[0] == "enter" and deed[1] <= day]
                    self.assertEqual(facts.setdefault(day, told), told)
            self.assertEqual(post.settled(), 9)

    def random_letters(self, rng):
        """Letters of two offices that keep their word."""
        out = []
        for office in ("ann", "bob"):
            number = 0
            for day in range(10):
                for _ in range(rng.randint(0, 2)):
                    number += 1
                    name = rng.choice("abcdef")
                    out.append((office, number, rng.choice([
                        ("edition", day, rng.choice([OLD, NEW])), ("ruling", day, name, rng.choice([None, day + 2]), HAIR, "3"),
                        ("lift", day, name), ("lot", day, name, "3", 5), ("enter", day, name, rng.choice([MIX, WORN]), "")])))
                if rng.random() < 0.4 or day == 9:
                    number += 1
                    out.append((office, number, ("close", day)))
        return out


class BothTest(unittest.TestCase):
    def test_both(self):
        rng = fixed_random(55)
        whole = post_of(LETTERS)
        for _ in range(40):
            parts = [rng.sample(LETTERS, rng.randint(0, 8)) for _ in range(3)]
            one, two, three = [post_of(part) for part in parts]
            both = one | two
            self.assertEqual(both, two | one)
            self.assertEqual((one | two) | three, one | (two | three))
            self.assertEqual(both, post_of(parts[0] + parts[1]))
            self.assertEqual(both.house(), post_of(parts[0] + parts[1]).house())
            self.assertEqual((one, two), (post_of(parts[0]), post_of(parts[1])))
            self.assertEqual(one | whole, whole)
            self.assertEqual(one | one, one)
        both = post_of(LETTERS[:2]) | post_of(LETTERS[2:])
        both.take("ann", 4, ("close", 9))
        self.assertEqual((both.many, whole.many), (9, 8))

    def test_errors(self):
        one = post_of(LETTERS)
        for other in (Post(STOCK, ["bob", "ann"]), Post(STOCK, ["ann"]), Post(OTHER, ["ann", "bob"])):
            other.take("ann", 1, ("close", 9))
            self.assertEqual(caught(lambda: one | other), ("OtherStock", 1))
        forged = post_of([("bob", 1, ("close", 1)), ("ann", 2, ("close", 9)), ("ann", 3, ("close", 1)), LETTERS[0]])
        for first, second in ((one, forged), (forged, one)):
            self.assertEqual(caught(lambda: first | second), ("Forged", "ann", 2))
        ten = post_of([("bob", 10, ("close", 1)), ("bob", 9, ("close", 1))])
        self.assertEqual(caught(lambda: ten | post_of([("bob", 10, ("close", 2)), ("bob", 9, ("close", 2))])),
                         ("Forged", "bob", 9))
        self.assertEqual((one, one.many), (post_of(LETTERS), 8))
        with self.assertRaises(TypeError):
            one | None
        with self.assertRaises(Forged):
            one | forged

    def test_equality(self):
        one = post_of(LETTERS)
        for other in (post_of(LETTERS[:-1]), post_of(LETTERS, ["bob", "ann"]), LETTERS, None,
                      post_of([*LETTERS[:-1], ("bob", 5, ("close", 6))]), Post(STOCK, ["ann", "bob"])):
            self.assertFalse(one == other)
        self.assertEqual(Post(STOCK, ["ann"]), Post(small_stock(), ("ann",)))
        self.assertFalse(Post(STOCK, ["ann"]) == Post(wide_stock(), ["ann"]))


if __name__ == "__main__":
    unittest.main()
