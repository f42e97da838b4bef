"""[4], [5], [6], [12], [13]: where names are found, and what nobody finds."""

import copy
import random
import unittest

from plain import made_house, plain_all, plain_needs, plain_straight, plain_unfound, spots_of
from samples import FULLEST, HOUSE, SMALLEST, STRANGE
from tastehouse.errors import NoNumber, NoRecipe, NoSpot, NoTasting
from tastehouse.finding import all_at, found_at, straight_of, tasting_needs, unfound
from tastehouse.houses import is_house

LAYERS = (
    (2, 1),
    ((5, (), 3, 1, ()), (5, (0, 1), 0, 1, ()), (6, (0, 1), 0, 1, ()), (5, (0,), 2, 1, ()), (4, (1, 0), 0, 1, ())),
    (),
)


class FoundTest(unittest.TestCase):
    def told(self, house, spot, name, right):
        with self.subTest(spot=spot, name=name):
            self.assertEqual(all_at(house, spot, name), right)
            self.assertIsInstance(all_at(house, spot, name), tuple)
            self.assertEqual(found_at(house, spot, name), right[0] if right else None)

    def test_the_nearest_first(self):
        self.told(LAYERS, (0, 1), 5, (1, 3, 0))
        self.told(LAYERS, (0, 0), 5, (3, 0))
        self.told(LAYERS, (0,), 5, (3, 0))
        self.told(LAYERS, (1, 0), 5, (0,))
        self.told(LAYERS, (1,), 5, (0,))
        self.told(LAYERS, (), 5, (0,))

    def test_not_found_from_wider_or_other_spots(self):
        self.told(LAYERS, (0, 1), 6, (2,))
        self.told(LAYERS, (1, 0), 4, (4,))
        for spot in ((), (0,), (0, 0), (1,), (1, 0)):
            self.told(LAYERS, spot, 6, ())
        for spot in ((), (0,), (0, 0), (0, 1), (1,)):
            self.told(LAYERS, spot, 4, ())

    def test_a_name_that_is_found_nowhere(self):
        for spot in spots_of(LAYERS):
            for name in (0, 1, 2, 3, 7):
                self.told(LAYERS, spot, name, ())
        for name in range(8):
            self.told(SMALLEST, (0, 0), name, ())

    def test_table_and_house_without_the_evening(self):
        house = ((1,), ((2, (), 0, 1, ()), (2, (0, 0), 0, 1, ())), ())
        self.told(house, (0, 0), 2, (1, 0))
        self.told(house, (0,), 2, (0,))
        self.told(house, (), 2, (0,))

    def test_refused_spots(self):
        for house in (HOUSE, SMALLEST, FULLEST):
            for thing in (0, (3,), (0, 3), *STRANGE):
                with self.subTest(thing=repr(thing)[:300]):
                    self.assertRaises(NoSpot, found_at, house, thing, 0)
                    self.assertRaises(NoSpot, all_at, house, thing, 0)

    def test_refused_spots_that_the_house_has_not(self):
        for spot in ((2,), (2, 0), (0, 2), (1, 1)):
            self.assertRaises(NoSpot, found_at, LAYERS, spot, 5)
            self.assertRaises(NoSpot, all_at, LAYERS, spot, 5)

    def test_refused_names(self):
        for thing in (8, 9, (), (0,), *STRANGE):
            with self.subTest(thing=repr(thing)[:300]):
                self.assertRaises(NoNumber, found_at, HOUSE, (), thing)
                self.assertRaises(NoNumber, all_at, HOUSE, (0, 0), thing)

    def test_the_spot_is_looked_at_first(self):
        for thing in (8, (), *STRANGE):
            self.assertRaises(NoSpot, found_at, HOUSE, (0, 2), thing)
            self.assertRaises(NoSpot, all_at, HOUSE, None, thing)


class NeedsTest(unittest.TestCase):
    def test_needs_in_their_order(self):
        self.assertEqual([straight_of(HOUSE, number) for number in range(8)], [
            (), (0, 3), (1, 4), (4,), (3,), (6, 0), (5, None), (None, None),
        ])
        self.assertEqual([tasting_needs(HOUSE, number) for number in range(3)], [(2, None), (), (None, 0)])

    def test_none_among_them(self):
        house = ((1,), ((1, (), 0, 1, (7, 2, 6)), (2, (), 0, 1, ())), (((0, 0), (2, 5, 1), ()), ((0, 0), (5, 2), ())))
        self.assertEqual(straight_of(house, 0), (None, 1, None))
        self.assertEqual(tasting_needs(house, 0), (1, None, 0))
        self.assertEqual(tasting_needs(house, 1), (None, 1))

    def test_its_own_name_only_farther_off(self):
        table, evening, whole = (3, (0, 0), 0, 1, (3,)), (3, (0,), 0, 1, (3,)), (3, (), 0, 1, (3,))
        for recipes, right in (
            ((whole,), (None,)), ((evening,), (None,)), ((table,), (None,)),
            ((table, evening), (1, None)), ((evening, table), (None, 0)), ((table, whole), (1, None)),
            ((whole, evening), (None, 0)), ((table, whole, evening), (2, None, 1)), ((whole, table, evening), (None, 2, 0)),
        ):
            with self.subTest(recipes=recipes):
                told = [straight_of(((1,), recipes, ()), number) for number in range(len(recipes))]
                self.assertEqual(told, [(number,) for number in right])

    def test_another_name_at_its_own_spot(self):
        for spot in ((), (0,), (0, 0)):
            house = ((1,), ((0, spot, 0, 1, (1, 0)), (1, spot, 0, 1, (0, 1))), ())
            self.assertEqual([straight_of(house, number) for number in (0, 1)], [(1, None), (0, None)])

    def test_its_own_name_is_not_found_beside_or_nearer(self):
        house = ((2, 1), ((0, (0, 0), 0, 1, (0,)), (0, (0, 1), 0, 1, (0,)), (0, (1,), 0, 1, (0,))), ())
        self.assertEqual([straight_of(house, number) for number in (0, 1, 2)], [(None,)] * 3)

    def test_needs_of_a_wide_recipe_are_found_from_its_own_spot(self):
        house = ((1,), ((0, (), 0, 1, (1,)), (1, (0, 0), 0, 1, ()), (1, (), 0, 1, ())), (((0, 0), (0, 1), ()),))
        self.assertEqual(straight_of(house, 0), (2,))
        self.assertEqual(tasting_needs(house, 0), (0, 1))

    def test_kinds_told(self):
        self.assertIsInstance(straight_of(HOUSE, 0), tuple)
        self.assertIsInstance(tasting_needs(HOUSE, 1), tuple)

    def test_refused_recipes(self):
        for house in (HOUSE, SMALLEST, FULLEST):
            many = len(house[1])
            for thing in (many, many + 1, 10 ** 39, (), (0,), *STRANGE):
                with self.subTest(thing=repr(thing)[:300]):
                    self.assertRaises(NoRecipe, straight_of, house, thing)

    def test_refused_tastings(self):
        for house in (HOUSE, SMALLEST, FULLEST):
            many = len(house[2])
            for thing in (many, many + 1, 10 ** 39, (), (0,), *STRANGE):
                with self.subTest(thing=repr(thing)[:300]):
                    self.assertRaises(NoTasting, tasting_needs, house, thing)

    def test_a_recipes_number_is_not_a_tastings(self):
        self.assertRaises(NoTasting, tasting_needs, HOUSE, 3)
        house = ((1,), ((0, (), 0, 1, ()),), (((0, 0), (0,), ()), ((0, 0), (), ())))
        self.assertRaises(NoRecipe, straight_of, house, 1)


class UnfoundTest(unittest.TestCase):
    def test_without_recipes_or_tastings(self):
        self.assertEqual(unfound(SMALLEST), [])
        self.assertEqual(unfound(LAYERS), [0, 1, 2, 3, 4])
        self.assertEqual(unfound(FULLEST), [1, 2, 4])

    def test_found_by_recipes_that_nobody_finds(self):
        house = ((1,), ((0, (), 0, 1, (1,)), (1, (), 0, 1, (2,)), (2, (), 0, 1, ()), (3, (), 0, 1, ())),
                 (((0, 0), (3,), ()),))
        self.assertEqual(unfound(house), [0, 1, 2])

    def test_found_by_recipes_that_are_found(self):
        house = ((1,), ((3, (), 0, 1, ()), (2, (), 0, 1, (3,)), (1, (), 0, 1, (2,)), (0, (), 0, 1, (1,))),
                 (((0, 0), (1,), ()),))
        self.assertEqual(unfound(house), [3])

    def test_rings(self):
        ring = ((0, (), 0, 1, (1,)), (1, (), 0, 1, (2,)), (2, (), 0, 1, (0,)), (3, (), 0, 1, (4,)), (4, (), 0, 1, (3,)))
        self.assertEqual(unfound(((1,), ring, ())), [0, 1, 2, 3, 4])
        self.assertEqual(unfound(((1,), ring, (((0, 0), (1,), ()),))), [3, 4])
        self.assertEqual(unfound(((1,), ring, (((0, 0), (4,), ()),))), [0, 1, 2])
        self.assertEqual(unfound(((1,), ring, (((0, 0), (2,), ()), ((0, 0), (3,), ())))), [])
        self.assertEqual(unfound(HOUSE), [5, 6, 7])

    def test_a_ring_that_hangs_on_others(self):
        house = ((1,), ((0, (), 0, 1, (1, 2)), (1, (), 0, 1, (0,)), (2, (), 0, 1, ()), (3, (), 0, 1, (0,))),
                 (((0, 0), (1,), ()),))
        self.assertEqual(unfound(house), [3])

    def test_hidden_by_a_nearer_one(self):
        house = ((2,), ((0, (), 0, 1, ()), (0, (0, 0), 0, 1, ())), (((0, 0), (0,), ()),))
        self.assertEqual(unfound(house), [0])
        self.assertEqual(unfound((*house[:2], (((0, 1), (0,), ()),))), [1])
        self.assertEqual(unfound((*house[:2], (((0, 1), (0,), ()), ((0, 0), (0,), ())))), [])

    def test_lacks_are_passed_over(self):
        house = ((1,), ((0, (), 0, 1, (7, 1)), (1, (), 0, 1, ())), (((0, 0), (6, 0), ()),))
        self.assertEqual(unfound(house), [])

    def test_a_told_list_is_the_askers_own(self):
        house = ((1,), ((0, (), 0, 1, ()), (1, (), 0, 1, ())), ())
        told = unfound(house)
        self.assertIsInstance(told, list)
        told.append(9)
        told[0] = 5
        again = unfound(house)
        self.assertEqual(again, [0, 1])
        again.clear()
        self.assertEqual(unfound(house), [0, 1])
        empty = unfound(SMALLEST)
        empty.append(0)
        self.assertEqual(unfound(SMALLEST), [])


class AllHousesTest(unittest.TestCase):
    def test_many_houses_by_the_plain_words(self):
        chance = random.Random(6)
        for number in range(400):
            house = made_house(chance)
            self.assertTrue(is_house(house), house)
            for spot in spots_of(house):
                for name in range(8):
                    right = plain_all(house, spot, name)
                    self.assertEqual(all_at(house, spot, name), tuple(right), house)
                    self.assertEqual(found_at(house, spot, name), (right + [None])[0], house)
            for recipe in range(len(house[1])):
                self.assertEqual(straight_of(house, recipe), plain_straight(house, recipe), house)
            for tasting in range(len(house[2])):
                self.assertEqual(tasting_needs(house, tasting), plain_needs(house, tasting), house)
            self.assertEqual(unfound(house), plain_unfound(house), house)

    def test_nothing_handed_in_is_changed_and_the_same_answer_again(self):
        house = copy.deepcopy(HOUSE)

        def asked():
            return (
                [all_at(house, spot, name) for spot in spots_of(house) for name in range(8)],
                [straight_of(house, number) for number in range(8)],
                [tasting_needs(house, number) for number in range(3)],
                unfound(house),
            )
        self.assertEqual(asked(), asked())
        self.assertEqual(house, HOUSE)

    def test_refused_things_are_not_changed(self):
        for thing in ([0, [1]], {"a": [0]}, ([0],)):
            before = copy.deepcopy(thing)
            self.assertRaises(NoSpot, found_at, HOUSE, thing, thing)
            self.assertRaises(NoNumber, all_at, HOUSE, (), thing)
            self.assertRaises(NoRecipe, straight_of, HOUSE, thing)
            self.assertRaises(NoTasting, tasting_needs, HOUSE, thing)
            self.assertEqual(thing, before)


if __name__ == "__main__":
    unittest.main()
