"""[4], [6], [7], [21], [22], [23]: lacks, shorts, rings, heights, and the first fault."""

import copy
import random
import unittest

from plain import (
    made_house, made_sound_house, plain_fault, plain_lacks, plain_ring, plain_shorts, plain_straight,
    without_lacks_and_shorts,
)
from samples import (
    ALL_FAULTS, FULLEST, HOUSE, LACK, LACK_RING, LACK_SHORT, RING, SHORT, SHORT_RING, SMALLEST, SOUND, STRANGE,
    TASTING_LACK, UNSOUND, at_house,
)
from tastehouse.faults import are_heights, first_fault, first_ring, is_sound, lacks, least_heights, shorts
from tastehouse.houses import is_house


def house_of(*needs, keeps=None):
    return (1,), at_house(*needs, keeps=keeps), ()


class SamplesTest(unittest.TestCase):
    def test_the_samples_are_houses(self):
        for house in (*UNSOUND, SOUND):
            self.assertTrue(is_house(house), house)


class LacksTest(unittest.TestCase):
    def test_none(self):
        self.assertEqual(lacks(SMALLEST), [])
        self.assertEqual(lacks(SOUND), [])
        self.assertEqual(lacks(RING), [])

    def test_of_a_recipe_and_of_a_tasting(self):
        self.assertEqual(lacks(LACK), [("recipe", 1, 7)])
        self.assertEqual(lacks(TASTING_LACK), [("tasting", 0, 6)])

    def test_several_rising_whatever_the_order_of_needs(self):
        house = (
            (1,),
            at_house((7, 5, 6), (2,), (6, 0, 4)),
            (((0, 0), (7, 0, 3), ()), ((0, 0), (1,), ()), ((0, 0), (6, 4), ())),
        )
        self.assertEqual(lacks(house), [
            ("recipe", 0, 5), ("recipe", 0, 6), ("recipe", 0, 7), ("recipe", 2, 4), ("recipe", 2, 6),
            ("tasting", 0, 3), ("tasting", 0, 7), ("tasting", 2, 4), ("tasting", 2, 6),
        ])

    def test_its_own_name_that_is_not_told_farther_off(self):
        self.assertEqual(lacks(house_of((0,))), [("recipe", 0, 0)])
        self.assertEqual(lacks(((1,), ((0, (0,), 0, 1, (0,)), (0, (0, 0), 0, 1, (0,))), ())), [("recipe", 0, 0)])

    def test_a_name_that_is_told_elsewhere_alone(self):
        house = ((2,), ((0, (0, 0), 0, 1, ()), (1, (0,), 0, 1, (0,))), (((0, 1), (1, 0), ()), ((0, 0), (0, 1), ())))
        self.assertEqual(lacks(house), [("recipe", 1, 0), ("tasting", 0, 0)])

    def test_the_sample_house(self):
        self.assertEqual(lacks(HOUSE), [
            ("recipe", 6, 5), ("recipe", 7, 6), ("recipe", 7, 7), ("tasting", 0, 6), ("tasting", 2, 5),
        ])


class ShortsTest(unittest.TestCase):
    def test_none_where_kept_as_long_or_longer(self):
        self.assertEqual(shorts(SMALLEST), [])
        self.assertEqual(shorts(SOUND), [])
        for keep in range(4):
            for other in range(4):
                told = shorts(house_of((), (0,), keeps=(other, keep)))
                self.assertEqual(told, [(1, 0)] if keep > other else [], (keep, other))

    def test_of_straight_ones_alone(self):
        # The last one is kept longer than the first one, of which it is cooked, but not straight.
        self.assertEqual(shorts(house_of((), (0,), (1,), keeps=(0, 3, 2))), [(1, 0)])

    def test_several_rising_whatever_the_order_of_needs(self):
        house = house_of((), (), (), (2, 0, 1), (1, 0), (3,), keeps=(1, 0, 2, 3, 2, 3))
        self.assertEqual(shorts(house), [(3, 0), (3, 1), (3, 2), (4, 0), (4, 1)])

    def test_lacks_are_passed_over(self):
        self.assertEqual(shorts(house_of((6, 1, 7), (), keeps=(1, 0))), [(0, 1)])

    def test_both_ways_in_a_ring(self):
        self.assertEqual(shorts(SHORT_RING), [(1, 0)])
        self.assertEqual(shorts(house_of((1,), (2,), (0,), keeps=(2, 1, 0))), [(0, 1), (1, 2)])


class RingTest(unittest.TestCase):
    def test_none(self):
        for house in (SMALLEST, SOUND, LACK, TASTING_LACK, SHORT, house_of((0,)), house_of((), (0,), (0, 1), (2, 1, 0))):
            self.assertIsNone(first_ring(house))

    def test_of_each_length(self):
        for many in range(2, 9):
            ring = tuple(range(many))
            self.assertEqual(first_ring(house_of(*[((at + 1) % many,) for at in ring])), ring)
            back = (0, *range(many - 1, 0, -1))
            self.assertEqual(first_ring(house_of(*[((at - 1) % many,) for at in ring])), back)

    def test_the_least_number_first(self):
        self.assertEqual(first_ring(house_of((), (), (4,), (2,), (3,))), (2, 4, 3))

    def test_the_fewest_recipes_ahead_of_the_least_numbers(self):
        self.assertEqual(first_ring(house_of((1,), (2,), (0,), (4,), (3,))), (3, 4))
        self.assertEqual(first_ring(house_of((1,), (2,), (3,), (0,), (5,), (6,), (4,))), (4, 5, 6))
        # A longer and a shorter ring through the same recipes.
        self.assertEqual(first_ring(house_of((1,), (2,), (3, 1), (0,))), (1, 2))

    def test_of_like_length_the_first_as_tuples_compare(self):
        self.assertEqual(first_ring(house_of((5,), (2,), (1,), (4,), (3,), (0,))), (0, 5))
        self.assertEqual(first_ring(house_of((3, 2), (), (0,), (0,))), (0, 2))
        self.assertEqual(first_ring(house_of((3, 1), (4, 2), (0,), (2,), (0,))), (0, 1, 2))
        self.assertEqual(first_ring(house_of((2, 1), (4,), (4, 3), (0,), (0,))), (0, 1, 4))

    def test_recipes_that_only_lead_to_or_from_a_ring(self):
        self.assertEqual(first_ring(house_of((1,), (2,), (3, 4), (2,), ())), (2, 3))

    def test_a_nearer_one_breaks_a_ring(self):
        ring = ((0, (), 0, 1, (1,)), (1, (), 0, 1, (0,)))
        self.assertEqual(first_ring(((1,), ring, ())), (0, 1))
        nearer = ((0, (), 0, 1, (1,)), (1, (0,), 0, 1, (0,)), (1, (), 0, 1, ()))
        self.assertIsNone(first_ring(((1,), nearer, ())))

    def test_the_sample_houses(self):
        self.assertEqual(first_ring(HOUSE), (3, 4))
        self.assertEqual(first_ring(FULLEST), (5, 6))


class HeightsTest(unittest.TestCase):
    # 0 and 4 are cooked of nothing, 1 of 0, 2 of 1 and 0, 3 of 4.
    house = house_of((), (0,), (1, 0), (4,), ())

    def test_right_ones(self):
        for thing in ((0, 1, 2, 1, 0), (7, 8, 9, 8, 7), (0, 5, 10 ** 39, 9, 8), (3, 4, 5, 1, 0), (10 ** 60, 10 ** 60 + 1, 10 ** 60 + 2, 1, 0)):
            self.assertIs(are_heights(self.house, thing), True, thing)

    def test_one_place_too_low(self):
        for thing in ((1, 1, 2, 1, 0), (0, 0, 2, 1, 0), (0, 1, 1, 1, 0), (0, 1, 0, 1, 0), (0, 1, 2, 0, 0), (0, 1, 2, 1, 1), (0, 1, 2, 1, 2)):
            self.assertIs(are_heights(self.house, thing), False, thing)

    def test_below_nought(self):
        for thing in ((-1, 0, 1, 1, 0), (0, 1, 2, 1, -1), (-1, 0, 1, 0, -1), (-(10 ** 39), 1, 2, 1, 0)):
            self.assertIs(are_heights(self.house, thing), False, thing)

    def test_a_part_less_or_more(self):
        for thing in ((), (0,), (0, 1, 2, 1), (1, 2, 1, 0), (0, 1, 2, 1, 0, 0), (0, 1, 2, 1, 0, 9)):
            self.assertIs(are_heights(self.house, thing), False, thing)

    def test_truths_and_other_kinds_within(self):
        for thing in ((False, 1, 2, 1, 0), (0, True, 2, 1, 0), (0, 1, 2, True, 0), (0, 1, 2, 1, False),
                      (0, 1, "2", 1, 0), (0, 1, None, 1, 0), (0, 1, 2, 1, (0,)), (0, [1], 2, 1, 0), (0, 1, 2, 1, {})):
            self.assertIs(are_heights(self.house, thing), False, thing)
        self.assertIs(are_heights(house_of((), ()), (0, False)), False)

    def test_other_kinds(self):
        for thing in ((), [0, 1, 2, 1, 0], {0: 0, 1: 1, 2: 2, 3: 1, 4: 0}, "01210", 5, *STRANGE):
            self.assertIs(are_heights(self.house, thing), False, repr(thing)[:300])

    def test_without_recipes(self):
        self.assertIs(are_heights(SMALLEST, ()), True)
        for thing in ([], {}, "", None, False, 0, (0,)):
            self.assertIs(are_heights(SMALLEST, thing), False, thing)
        self.assertEqual(least_heights(SMALLEST), ())

    def test_the_least_ones(self):
        self.assertEqual(least_heights(self.house), (0, 1, 2, 1, 0))
        self.assertEqual(least_heights(SOUND), (0, 1, 1, 2, 1, 1, 0, 0))
        self.assertEqual(least_heights(house_of((1,), (2,), (3,), (4,), (5,), (6,), (7,), ())), (7, 6, 5, 4, 3, 2, 1, 0))
        self.assertEqual(least_heights(house_of((), (0,), (1,), (2,), (3,), (4,), (5,), (6,))), (0, 1, 2, 3, 4, 5, 6, 7))
        self.assertIsInstance(least_heights(self.house), tuple)

    def test_lacks_and_shorts_do_not_matter(self):
        self.assertEqual(least_heights(house_of((7, 1), (6,), (2,))), (1, 0, 0))
        self.assertEqual(least_heights(SHORT), (0, 1))
        self.assertIs(are_heights(house_of((7, 1), (6,), (2,)), (1, 0, 0)), True)

    def test_none_with_a_ring(self):
        for house in (RING, HOUSE, FULLEST, house_of((), (2,), (1,)), house_of((1,), (2,), (3,), (4,), (5,), (6,), (7,), (0,))):
            self.assertIsNone(least_heights(house))
            many = len(house[1])
            for thing in ((0,) * many, tuple(range(many)), tuple(range(many, 0, -1))):
                self.assertIs(are_heights(house, thing), False)


class SoundTest(unittest.TestCase):
    def test_each_fault_alone_and_together(self):
        for house, right in (
            (LACK, ("lack", ("recipe", 1, 7))), (TASTING_LACK, ("lack", ("tasting", 0, 6))),
            (SHORT, ("short", (1, 0))), (RING, ("ring", (0, 1))), (LACK_SHORT, ("lack", ("recipe", 1, 7))),
            (LACK_RING, ("lack", ("recipe", 1, 7))), (SHORT_RING, ("short", (1, 0))),
            (ALL_FAULTS, ("lack", ("tasting", 0, 5))), (HOUSE, ("lack", ("recipe", 6, 5))),
            (FULLEST, ("lack", ("recipe", 5, 5))),
        ):
            with self.subTest(house=house):
                self.assertEqual(first_fault(house), right)
                self.assertIs(is_sound(house), False)

    def test_the_first_of_several(self):
        house = ((1,), at_house((7, 6), (), (1,)), (((0, 0), (5,), ()),))
        self.assertEqual(first_fault(house), ("lack", ("recipe", 0, 6)))
        self.assertEqual(first_fault(house_of((), (0,), (1, 0), keeps=(1, 2, 3))), ("short", (1, 0)))
        self.assertEqual(first_fault(house_of((1,), (2,), (0,), (4,), (3,))), ("ring", (3, 4)))

    def test_none(self):
        for house in (SMALLEST, SOUND, house_of((), (0,)), ((1,), (), (((0, 0), (), ()),))):
            self.assertIsNone(first_fault(house))
            self.assertIs(is_sound(house), True)


class AllHousesTest(unittest.TestCase):
    def test_many_houses_by_the_plain_words(self):
        chance = random.Random(22)
        seen = set()
        for number in range(500):
            house = made_house(chance, 0.7)
            house = without_lacks_and_shorts(house) if number < 200 else house
            self.assertEqual(lacks(house), plain_lacks(house), house)
            self.assertEqual(shorts(house), plain_shorts(house), house)
            if len(house[1]) <= 6:
                self.assertEqual(first_ring(house), plain_ring(house), house)
                self.assertEqual(first_fault(house), plain_fault(house), house)
            fault = first_fault(house)
            self.assertIs(is_sound(house), fault is None, house)
            seen.add(fault and fault[0])
            self.check_heights(house)
        self.assertEqual(seen, {"lack", "short", "ring", None})

    def check_heights(self, house):
        told = least_heights(house)
        self.assertEqual(told is None, first_ring(house) is not None, house)
        if told is not None:
            right = [len(self.longest_from(house, number)) - 1 for number in range(len(house[1]))]
            self.assertEqual(told, tuple(right), house)
            self.assertTrue(are_heights(house, told), house)
            self.assertTrue(are_heights(house, tuple(height + 3 for height in told)), house)
            for at, height in enumerate(told):
                # Each of the least heights is at its floor: one lower is none, or breaks a rule.
                self.assertFalse(are_heights(house, (*told[:at], height - 1, *told[at + 1:])), house)

    def longest_from(self, house, number):
        rows = [self.longest_from(house, other) for other in plain_straight(house, number) if other is not None]
        return [number] + max(rows, key=len, default=[])

    def test_made_sound_houses_are_sound(self):
        chance = random.Random(23)
        for number in range(200):
            house = made_sound_house(chance)
            self.assertTrue(is_house(house), house)
            self.assertTrue(is_sound(house), house)

    def test_a_told_list_is_the_askers_own(self):
        for ask, house in ((lacks, HOUSE), (shorts, house_of((), (0,), (0, 1), keeps=(0, 1, 2)))):
            told, right = ask(house), ask(house)
            self.assertIsInstance(told, list)
            told.append(("recipe", 9, 9))
            told[0] = None
            self.assertEqual(ask(house), right)
            told.clear()
            self.assertEqual(ask(house), right)
        for ask in (lacks, shorts):
            told = ask(SMALLEST)
            told.append(0)
            self.assertEqual(ask(SMALLEST), [])

    def test_nothing_handed_in_is_changed_and_the_same_answer_again(self):
        things = [[0, [1]], {"a": [0]}, (0, [1], 2), (0, 1, 1, 2, 1, 1, 0, 0)]
        before = copy.deepcopy(things)
        for house in (*UNSOUND, SOUND, SMALLEST):
            kept = copy.deepcopy(house)

            def asked():
                told = [ask(house) for ask in (lacks, shorts, first_ring, least_heights, is_sound, first_fault)]
                return told + [are_heights(house, thing) for thing in things]
            self.assertEqual(asked(), asked())
            self.assertEqual(house, kept)
        self.assertEqual(things, before)


if __name__ == "__main__":
    unittest.main()
