"""[4], [5], [64]: lists of what was done in a run, and the mishaps that they show."""

import copy
import random
import unittest

from plain import every_run, made_mishaps, made_order, made_sound_house
from samples import KITCHEN, NO_ORDERS, SMALLEST, STRANGE, UNSOUND, at_house, nested
from tastehouse.errors import NoList, NoNumber, NoOrder, NotSound
from tastehouse.lists import is_run_list, mishaps_of
from tastehouse.runs import run_list
from tastehouse.turns import order_of

FIRST, SECOND, BESIDE, NOTHING = (0, (0, 0, 0, 0)), (0, (0, 0, 0, 1)), (3, (0,)), (4, ())
ORDER = (FIRST, SECOND, BESIDE)

# Two recipes, the second one kept for one tasting and cooked of the first one: few enough ways to look at each.
SMALL = ((1,), at_house((), (0,), keeps=(3, 0), sorts=(2, 1)), (((0, 0), (1,), ()),))
SMALL_ORDER = ((0, (0, 0)), (0, (1, 0)))


def otherwise(deeds, chance):
    """The same with one thing otherwise, less, more or exchanged."""
    deeds = list(deeds)
    at, to = chance.randrange(len(deeds)), chance.randrange(len(deeds))
    words = ("cook", "burn", "taste", "bad", "miss", "pour", "spill", "left", "", None, 0)
    word, thing = deeds[at]
    way = chance.randrange(10)
    if way == 0:
        del deeds[at]
    elif way == 1:
        deeds.insert(to, deeds[at])
    elif way == 2:
        deeds[at], deeds[to] = deeds[to], deeds[at]
    elif way in (3, 4):
        deeds[at] = (chance.choice(words), thing)
    elif way == 5:
        deeds[at] = (word, deeds[to][1])
    elif way == 6:
        deeds[at] = (word, altered(thing, chance))
    elif way == 7:
        deeds[at] = chance.choice((list(deeds[at]), (*deeds[at], 0), deeds[at][:1], word, thing, None, {word: thing}))
    elif way == 8:
        deeds = deeds[:at]
    else:
        deeds += [chance.choice(deeds), (chance.choice(words), thing)][:chance.randint(1, 2)]
    return deeds


def altered(thing, chance):
    """A pot or a turn with one place otherwise, maybe only in its kind."""
    if isinstance(thing, int):
        return chance.choice((thing + 1, thing - 1, bool(thing), str(thing), None, (thing,)))
    if not thing or chance.random() < 0.2:
        return chance.choice((list(thing), (*thing, 0), thing[1:], None, dict(enumerate(thing))))
    at = chance.randrange(len(thing))
    return (*thing[:at], altered(thing[at], chance), *thing[at + 1:])


class ListsTest(unittest.TestCase):
    def test_told_ones(self):
        for order in ((), (NOTHING,), ORDER, ORDER[::-1]):
            for often in (1, 2, 99):
                for mishaps in ((), (("cook", 0),), (("pour", 0), ("taste", 0)), (("cook", 4), ("pour", 2), ("taste", 1))):
                    told = run_list(KITCHEN, order, mishaps, often)
                    self.assertIs(is_run_list(KITCHEN, order, often, told), True)
                    shown = mishaps_of(KITCHEN, order, often, told)
                    self.assertTrue(set(shown) <= set(mishaps))
                    self.assertEqual(run_list(KITCHEN, order, shown, often), told)

    def test_the_mishaps_shown(self):
        mishaps = (("cook", 4), ("pour", 0), ("pour", 3), ("taste", 0), ("taste", 1))
        self.assertEqual(mishaps_of(KITCHEN, ORDER, 9, run_list(KITCHEN, ORDER, mishaps, 9)), mishaps)
        self.assertEqual(mishaps_of(KITCHEN, ORDER, 9, run_list(KITCHEN, ORDER, (), 9)), ())
        self.assertEqual(mishaps_of(KITCHEN, (), 1, []), ())
        self.assertIsInstance(mishaps_of(KITCHEN, ORDER, 9, run_list(KITCHEN, ORDER, mishaps, 9)), tuple)

    def test_rising_also_beyond_ten(self):
        house = ((1,), at_house((), sorts=(3,), keeps=(0,)), (((0, 0), (0,), ()),) * 6)
        order = tuple((tasting, (sort,)) for tasting in range(6) for sort in range(3))
        mishaps = tuple(sorted((what, number) for what in ("cook", "pour", "taste") for number in (1, 2, 9, 10, 11)))
        told = run_list(house, order, mishaps, 99)
        self.assertEqual(mishaps_of(house, order, 99, told), mishaps)

    def test_not_those_that_the_run_does_not_come_to(self):
        mishaps = (("cook", 0), ("cook", 99), ("pour", 0), ("taste", 0))
        told = run_list(KITCHEN, (FIRST, SECOND), mishaps, 1)
        self.assertEqual(mishaps_of(KITCHEN, (FIRST, SECOND), 1, told), (("cook", 0),))

    def test_of_another_order_house_or_often(self):
        told = run_list(KITCHEN, ORDER, (("taste", 0),), 2)
        self.assertIs(is_run_list(KITCHEN, ORDER, 2, told), True)
        self.assertIs(is_run_list(KITCHEN, ORDER, 3, told), True)
        self.assertIs(is_run_list(KITCHEN, ORDER, 1, told), False)
        self.assertIs(is_run_list(KITCHEN, ORDER[:2], 2, told), False)
        self.assertIs(is_run_list(KITCHEN, ORDER[::-1], 2, told), False)
        self.assertIs(is_run_list(KITCHEN, (), 2, told), False)
        self.assertIs(is_run_list(SMALLEST, (), 2, told), False)
        self.assertIs(is_run_list(SMALLEST, (), 2, []), True)
        self.assertIs(is_run_list(KITCHEN, (NOTHING,), 2, []), False)

    def test_other_kinds(self):
        told = run_list(KITCHEN, ORDER, (), 1)
        for thing in (tuple(told), {0: told}, dict(enumerate(told)), str(told), [told], [*told, None], [*told, []], 0, (),
                      [list(deed) for deed in told], [(deed,) for deed in told], [word for word, thing in told],
                      [{}] * 8999, [("cook", 0)] * 2000, [([], 0)], [({}, 0)], [(0, 0)], [("cook",)], [nested(tuple, 29)], *STRANGE):
            with self.subTest(thing=repr(thing)[:300]):
                self.assertIs(is_run_list(KITCHEN, ORDER, 1, thing), False)
                self.assertRaises(NoList, mishaps_of, KITCHEN, ORDER, 1, thing)

    def test_truths_in_place_of_numbers(self):
        order = ((3, (1,)),)
        self.assertEqual(run_list(KITCHEN, order, (), 1), [
            ("cook", (4, (), (1,))), ("taste", (3, (1,))), ("pour", (4, (), (1,))),
        ])
        for at, deed in ((0, ("cook", (4, (), (True,)))), (1, ("taste", (3, (True,)))), (2, ("pour", (4, (), (True,))))):
            thing = run_list(KITCHEN, order, (), 1)
            thing[at] = deed
            self.assertIs(is_run_list(KITCHEN, order, 1, thing), False)
        self.assertIs(is_run_list(SMALL, SMALL_ORDER[:1], 1, [
            ("cook", (0, (), (False,))), ("burn", (1, (0, 0, 0), (0, 0))), ("miss", (0, (0, 0))), ("pour", (0, (), (0,))),
        ]), False)
        self.assertIs(is_run_list(SMALL, SMALL_ORDER[:1], 1, [
            ("cook", (0, (), (0,))), ("burn", (1, (0, 0, 0), (0, 0))), ("miss", (0, (0, 0))), ("pour", (0, (), (0,))),
        ]), True)

    def test_a_miss_without_a_burnt_pot_and_a_burnt_pot_without_a_miss(self):
        for thing in (
            [("miss", NOTHING)], [("burn", (4, (), (0,)))], [("miss", BESIDE)], [("burn", (4, (), (0,))), ("taste", BESIDE)],
            [("miss", BESIDE), ("burn", (4, (), (0,)))], [("burn", (4, (), (0,))), ("miss", BESIDE), ("miss", BESIDE)],
        ):
            for order in ((NOTHING,), (BESIDE,)):
                self.assertIs(is_run_list(KITCHEN, order, 1, thing), False)
        self.assertIs(is_run_list(KITCHEN, (BESIDE,), 1, [("burn", (4, (), (0,))), ("miss", BESIDE)]), True)


class EveryListTest(unittest.TestCase):
    def test_every_list_and_such_with_one_thing_otherwise(self):
        chance = random.Random(64)
        for often in (1, 2):
            runs = every_run(SMALL, SMALL_ORDER, often)
            # Told by their texts, in which True is not 1.
            right = {repr(deeds): mishaps for mishaps, deeds, came, stood in runs}
            self.assertEqual(len(right), len(runs))
            for mishaps, deeds, came, stood in runs:
                self.check(often, deeds, right)
                for number in range(12):
                    self.check(often, otherwise(deeds, chance), right)

    def check(self, often, thing, right):
        told = is_run_list(SMALL, SMALL_ORDER, often, thing)
        self.assertIs(told, repr(thing) in right, thing)
        if told:
            self.assertEqual(mishaps_of(SMALL, SMALL_ORDER, often, thing), right[repr(thing)])
        else:
            self.assertRaises(NoList, mishaps_of, SMALL, SMALL_ORDER, often, thing)

    def test_made_houses(self):
        chance = random.Random(65)
        for number in range(150):
            house = made_sound_house(chance)
            order, mishaps, often = made_order(chance, house, 6), made_mishaps(chance, 8), chance.randint(1, 4)
            told = run_list(house, order, mishaps, often)
            self.assertIs(is_run_list(house, order, often, told), True)
            shown = mishaps_of(house, order, often, told)
            self.assertTrue(set(shown) <= set(mishaps))
            self.assertEqual(run_list(house, order, shown, often), told)
            if told:
                thing = otherwise(told, chance)
                told_so = is_run_list(house, order, often, thing)
                if told_so:
                    self.assertEqual(repr(run_list(house, order, mishaps_of(house, order, often, thing), often)), repr(thing))

    def test_a_long_told_list(self):
        house = ((1,), at_house((), (0,), (1,), (2,), keeps=(3, 2, 1, 0), sorts=(3,) * 4), (((0, 0), (3,), ()),))
        order = order_of(house, 0)
        mishaps = tuple(("pour", number) for number in range(0, 120, 2))
        told = run_list(house, order, mishaps, 1)
        self.assertIs(is_run_list(house, order, 1, told), True)
        self.assertEqual(mishaps_of(house, order, 1, told), mishaps)
        self.assertIs(is_run_list(house, order, 1, told[:-1]), False)


class RefusalsTest(unittest.TestCase):
    def refused(self, error, house, order, often, thing):
        self.assertRaises(error, is_run_list, house, order, often, thing)
        self.assertRaises(error, mishaps_of, house, order, often, thing)

    def test_orders(self):
        for order in (*NO_ORDERS, *STRANGE):
            with self.subTest(thing=repr(order)[:300]):
                self.refused(NoOrder, KITCHEN, order, 1, [])
                self.refused(NoOrder, KITCHEN, order, 0, None)

    def test_often(self):
        for often in (0, 100, 101, (), (1,), *STRANGE):
            with self.subTest(thing=repr(often)[:300]):
                self.refused(NoNumber, KITCHEN, (), often, [])
                self.refused(NoNumber, KITCHEN, (NOTHING,), often, None)
        for often in (1, 99):
            self.assertIs(is_run_list(KITCHEN, (), often, []), True)

    def test_an_unsound_house_ahead_of_all(self):
        for house in UNSOUND:
            for order, often, thing in (((), 1, []), (None, None, None), ((), 0, []), ((), 1, 0)):
                self.refused(NotSound, house, order, often, thing)

    def test_nothing_handed_in_is_changed_and_the_same_answer_again(self):
        house, order = copy.deepcopy((KITCHEN, ORDER))
        told = run_list(house, order, (("cook", 4), ("pour", 1)), 2)
        for thing in (told, [0, [1]], {"a": [0]}, ([0],), [["cook", 0]], [("cook", [0])], told[::-1]):
            before = copy.deepcopy(thing)
            right = thing == told
            self.assertIs(is_run_list(house, order, 2, thing), right)
            self.assertIs(is_run_list(house, order, 2, thing), right)
            if right:
                self.assertEqual(mishaps_of(house, order, 2, thing), (("cook", 4), ("pour", 1)))
            else:
                self.assertRaises(NoList, mishaps_of, house, order, 2, thing)
            self.refused(NoOrder, house, [thing], 2, thing)
            self.assertEqual(thing, before)
        self.assertEqual((house, order), (KITCHEN, ORDER))


if __name__ == "__main__":
    unittest.main()
