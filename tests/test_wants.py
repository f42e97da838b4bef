"""[4], [5], [31], [32], [33]: what is wanted for tastings and recipes, of sound houses."""

import copy
import random
import unittest

from plain import made_sound_house, plain_needs, plain_straight, plain_wanted
from samples import SMALLEST, SOUND, STRANGE, UNSOUND, at_house
from tastehouse.errors import NoRecipe, NotSound, NoTasting
from tastehouse.wants import cooked_of, longest_row, tastings_with, wanted_alone, wanted_for


def house_of(*needs, tastings=()):
    return (1,), at_house(*needs), tuple(((0, 0), needed, ()) for needed in tastings)


class WantedTest(unittest.TestCase):
    def test_needs_of_needs(self):
        house = house_of((1,), (2,), (3,), (), tastings=((0,), (2,), ()))
        self.assertEqual([wanted_for(house, tasting) for tasting in range(3)], [(3, 2, 1, 0), (3, 2), ()])
        self.assertEqual([wanted_alone(house, recipe) for recipe in range(4)], [(3, 2, 1, 0), (3, 2, 1), (3, 2), (3,)])

    def test_by_two_ways_it_stands_once(self):
        # 3 is wanted for 1 and for 2, both of them for 0.
        house = house_of((1, 2), (3,), (3,), (), tastings=((0,), (1, 2), (2, 1), (3, 0), (0, 3), (1, 3)))
        self.assertEqual([wanted_for(house, tasting) for tasting in range(6)], [
            (3, 1, 2, 0), (3, 1, 2), (3, 2, 1), (3, 1, 2, 0), (3, 1, 2, 0), (3, 1),
        ])

    def test_straight_and_by_another_one(self):
        # 0 is cooked straight of 2, and of 1 that is cooked of 2.
        self.assertEqual(wanted_alone(house_of((1, 2), (2,), ()), 0), (2, 1, 0))
        self.assertEqual(wanted_alone(house_of((2, 1), (2,), ()), 0), (2, 1, 0))
        self.assertEqual(wanted_alone(house_of((2, 1), (), (1,)), 0), (1, 2, 0))

    def test_the_order_of_needs(self):
        house = house_of((3, 1, 2), (), (), (), tastings=((0,), (2, 1), (1, 2), (3, 0), (2, 0, 1)))
        self.assertEqual(wanted_alone(house, 0), (3, 1, 2, 0))
        self.assertEqual([wanted_for(house, tasting) for tasting in range(5)], [
            (3, 1, 2, 0), (2, 1), (1, 2), (3, 1, 2, 0), (2, 3, 1, 0),
        ])

    def test_names_told_anew_at_an_evening_and_a_table(self):
        self.assertEqual([wanted_for(SOUND, tasting) for tasting in range(4)], [
            (0, 2, 1, 3), (0, 4, 6, 5), (), (7, 0, 1),
        ])
        self.assertEqual([wanted_alone(SOUND, recipe) for recipe in range(8)], [
            (0,), (0, 1), (0, 2), (0, 2, 1, 3), (0, 4), (6, 0, 5), (6,), (7,),
        ])

    def test_kinds_told(self):
        for recipe in range(8):
            self.assertIsInstance(wanted_alone(SOUND, recipe), tuple)
        for tasting in range(4):
            self.assertIsInstance(wanted_for(SOUND, tasting), tuple)


class WantersTest(unittest.TestCase):
    def test_tastings(self):
        self.assertEqual([tastings_with(SOUND, recipe) for recipe in range(8)], [
            [0, 1, 3], [0, 3], [0], [0], [1], [1], [1], [3],
        ])
        house = house_of((), (0,), (), tastings=((), (1,), (2,), (0,), (2, 1)))
        self.assertEqual([tastings_with(house, recipe) for recipe in range(3)], [[1, 3, 4], [1, 4], [2, 4]])

    def test_no_tasting(self):
        self.assertEqual(tastings_with(house_of((), tastings=((),)), 0), [])
        self.assertEqual(tastings_with(house_of(()), 0), [])

    def test_recipes_straight_or_not(self):
        self.assertEqual([cooked_of(SOUND, recipe) for recipe in range(8)], [
            [1, 2, 3, 4, 5], [3], [3], [], [], [], [5], [],
        ])
        house = house_of((1,), (2,), (3,), ())
        self.assertEqual([cooked_of(house, recipe) for recipe in range(4)], [[], [0], [0, 1], [0, 1, 2]])

    def test_not_of_itself(self):
        for recipe in range(3):
            self.assertNotIn(recipe, cooked_of(house_of((1, 2), (2,), ()), recipe))

    def test_recipes_that_no_tasting_wants_count(self):
        self.assertEqual(cooked_of(house_of((), (0,), tastings=((),)), 0), [1])


class LongestRowTest(unittest.TestCase):
    def test_none(self):
        self.assertEqual(longest_row(SMALLEST), 0)

    def test_rows(self):
        self.assertEqual(longest_row(house_of(())), 1)
        self.assertEqual(longest_row(house_of((), (), ())), 1)
        self.assertEqual(longest_row(house_of((1,), (), (0,), ())), 3)
        self.assertEqual(longest_row(SOUND), 3)
        self.assertEqual(longest_row(house_of((), (0,), (1, 0), (2,), (3, 0), (4,), (5,), (6, 1, 0))), 8)

    def test_not_as_many_as_are_wanted(self):
        self.assertEqual(longest_row(house_of((1, 2, 3), (), (), ())), 2)
        self.assertEqual(longest_row(house_of((1, 2), (3,), (4,), (), (3,))), 4)


class RefusalsTest(unittest.TestCase):
    def test_recipes(self):
        for house in (SOUND, SMALLEST, house_of((), tastings=((), ()))):
            many = len(house[1])
            for thing in (many, many + 1, 10 ** 39, (), (0,), *STRANGE):
                with self.subTest(thing=repr(thing)[:300]):
                    for ask in (wanted_alone, tastings_with, cooked_of):
                        self.assertRaises(NoRecipe, ask, house, thing)

    def test_tastings(self):
        for house in (SOUND, SMALLEST, house_of((), ())):
            many = len(house[2])
            for thing in (many, many + 1, 10 ** 39, (), (0,), *STRANGE):
                with self.subTest(thing=repr(thing)[:300]):
                    self.assertRaises(NoTasting, wanted_for, house, thing)

    def test_an_unsound_house_ahead_of_all(self):
        for house in UNSOUND:
            self.assertRaises(NotSound, longest_row, house)
            for ask in (wanted_for, wanted_alone, tastings_with, cooked_of):
                for thing in (0, 99, -1, True, None, [0]):
                    self.assertRaises(NotSound, ask, house, thing)


class AllHousesTest(unittest.TestCase):
    def test_many_houses_by_the_plain_words(self):
        chance = random.Random(31)
        for number in range(300):
            house = made_sound_house(chance)
            alone = [plain_wanted(house, (recipe,)) for recipe in range(len(house[1]))]
            tasted = [plain_wanted(house, plain_needs(house, tasting)) for tasting in range(len(house[2]))]
            self.assertEqual([wanted_for(house, tasting) for tasting in range(len(house[2]))], tasted, house)
            for recipe in range(len(house[1])):
                self.assertEqual(wanted_alone(house, recipe), alone[recipe], house)
                right = [tasting for tasting, wanted in enumerate(tasted) if recipe in wanted]
                self.assertEqual(tastings_with(house, recipe), right, house)
                right = [other for other, wanted in enumerate(alone) if recipe in wanted[:-1]]
                self.assertEqual(cooked_of(house, recipe), right, house)
            self.assertEqual(longest_row(house), self.longest(house, range(len(house[1]))), house)

    def longest(self, house, recipes):
        return max([1 + self.longest(house, plain_straight(house, recipe)) for recipe in recipes], default=0)

    def test_a_told_list_is_the_askers_own(self):
        for ask in (tastings_with, cooked_of):
            for recipe in range(8):
                told, right = ask(SOUND, recipe), ask(SOUND, recipe)
                self.assertIsInstance(told, list)
                told.insert(0, 9)
                self.assertEqual(ask(SOUND, recipe), right)
                told.clear()
                self.assertEqual(ask(SOUND, recipe), right)

    def test_nothing_handed_in_is_changed_and_the_same_answer_again(self):
        house = copy.deepcopy(SOUND)

        def asked():
            told = [ask(house, recipe) for ask in (wanted_alone, tastings_with, cooked_of) for recipe in range(8)]
            return told + [wanted_for(house, tasting) for tasting in range(4)] + [longest_row(house)]
        self.assertEqual(asked(), asked())
        self.assertEqual(house, SOUND)
        for thing in ([0, [1]], {"a": [0]}, ([0],)):
            before = copy.deepcopy(thing)
            self.assertRaises(NoTasting, wanted_for, house, thing)
            for ask in (wanted_alone, tastings_with, cooked_of):
                self.assertRaises(NoRecipe, ask, house, thing)
            self.assertEqual(thing, before)


if __name__ == "__main__":
    unittest.main()
