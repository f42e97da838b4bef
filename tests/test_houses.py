"""[2], [3], [4], [11]: what is a house and what is a spot, of whatever kind."""

import copy
import unittest

from samples import FULLEST, HOUSE, RECIPES, SMALLEST, STRANGE, TABLES, TASTINGS, nested
from tastehouse.houses import is_house, is_spot

RECIPE = (3, (0, 1), 1, 2, (0, 7))
TASTING = ((0, 1), (3, 0), ("hot", "sweet"))


def changed(row, place, thing):
    return row[:place] + (thing,) + row[place + 1:]


class HouseTest(unittest.TestCase):
    def told(self, right, *things):
        for thing in things:
            with self.subTest(thing=repr(thing)[:300]):
                self.assertIs(is_house(thing), right)

    def recipes(self, right, *recipes):
        self.told(right, *[(TABLES, (recipe,), ()) for recipe in recipes])
        self.told(right, *[(TABLES, ((6, (), 0, 1, ()), recipe), ()) for recipe in recipes])

    def recipe_part(self, right, place, *things):
        self.recipes(right, *[changed(RECIPE, place, thing) for thing in things])

    def tastings(self, right, *tastings):
        self.told(right, *[(TABLES, (), (tasting,)) for tasting in tastings])
        self.told(right, *[(TABLES, (), (((0, 0), (), ()), tasting)) for tasting in tastings])

    def tasting_part(self, right, place, *things):
        self.tastings(right, *[changed(TASTING, place, thing) for thing in things])

    def test_houses(self):
        self.told(True, HOUSE, SMALLEST, FULLEST)
        self.recipes(True, RECIPE)
        self.tastings(True, TASTING)

    def test_things_of_other_kinds(self):
        self.told(False, *STRANGE)
        self.told(False, 0, 1, (), (0,), (1, 0), (1, 2, 3), ((), (), ()), (None, None, None), ({}, {}, {}))

    def test_a_house_is_a_tuple_of_three(self):
        self.told(False, list(SMALLEST), SMALLEST[:2], SMALLEST + ((),), dict(enumerate(SMALLEST)), (SMALLEST,))

    def test_parts_of_a_house_are_tuples(self):
        for place in range(3):
            self.told(False, changed(HOUSE, place, list(HOUSE[place])), changed(SMALLEST, place, list(SMALLEST[place])))
            self.told(False, *[changed(HOUSE, place, thing) for thing in STRANGE])
            self.told(False, changed(HOUSE, place, 1), changed(HOUSE, place, 0))

    def test_evenings(self):
        self.told(True, *[((1,) * many, (), ()) for many in (1, 2, 3)])
        self.told(False, *[((1,) * many, (), ()) for many in (0, 4, 5)])

    def test_tables(self):
        self.told(True, *[((many,), (), ()) for many in (1, 2, 3)])
        self.told(True, ((1, 2, 3), (), ()), ((3, 3, 3), (), ()))
        for many in (0, 4, -1, 10 ** 39, True, False, None, "1", (1,), [1], {}):
            self.told(False, ((many,), (), ()), ((1, many), (), ()), ((many, 2), (), ()), ((1, 1, many), (), ()))

    def test_how_many_recipes(self):
        def house(many):
            return TABLES, tuple((number % 8, (number // 8,), 0, 1, ()) for number in range(many)), ()
        self.told(True, *[house(many) for many in range(9)])
        self.told(False, *[house(many) for many in range(9, 17)])

    def test_a_recipe_is_a_tuple_of_five(self):
        self.recipes(False, list(RECIPE), RECIPE[:4], RECIPE + ((),), (), 0, *STRANGE)

    def test_name_of_a_recipe(self):
        self.recipe_part(True, 0, *range(6))
        self.recipe_part(True, 0, 7)
        self.recipe_part(False, 0, 8, (), (0,), *STRANGE)

    def test_spot_of_a_recipe(self):
        self.recipe_part(True, 1, (), (0,), (1,), (2,), (0, 0), (0, 1), (1, 0), (2, 0), (2, 1), (2, 2))
        self.recipe_part(False, 1, 0, (3,), (0, 2), (1, 1), (2, 3), (3, 0), (0, 0, 0), *STRANGE)

    def test_keep_of_a_recipe(self):
        self.recipe_part(True, 2, 0, 1, 2, 3)
        self.recipe_part(False, 2, 4, (), (0,), *STRANGE)

    def test_sorts_of_a_recipe(self):
        self.recipe_part(True, 3, 1, 2, 3)
        self.recipe_part(False, 3, 0, 4, (), (1,), *STRANGE)

    def test_needs(self):
        let = ((), (0,), (7,), (3,), (7, 0), (0, 7), (1, 2, 3), (3, 2, 1), (5, 7, 6))
        wrong = ((8,), (-1,), (0, 8), (0, 1, 8), (True,), (False,), (1, False), (None,), ("0",), ((0,),), ([],), ({},),
                 (10 ** 39,), (0, 0), (7, 7), (0, 1, 0), (1, 0, 0), (0, 0, 1), (0, 0, 0), (0, 1, 2, 3), (0, 1, 2, 0),
                 [], [0], [0, 1], {}, {0: 1}, None, 0, "", "0", True, nested(tuple, 30), nested(list, 30))
        self.recipe_part(True, 4, *let)
        self.recipe_part(False, 4, *wrong)
        self.tasting_part(True, 1, *let)
        self.tasting_part(False, 1, *wrong)

    def test_no_two_recipes_of_one_name_and_one_spot(self):
        for spot in ((), (1,), (2, 1)):
            one, other = (3, spot, 0, 1, ()), (3, spot, 1, 2, (0,))
            between = (3, (0, 0), 0, 1, ())
            self.told(False, (TABLES, (one, one), ()), (TABLES, (one, other), ()), (TABLES, (one, between, other), ()))
            self.told(True, (TABLES, (one, between), ()), (TABLES, (one, (4, spot, 0, 1, ())), ()))

    def test_how_many_tastings(self):
        self.told(True, *[(TABLES, (), (TASTING,) * many) for many in range(7)])
        self.told(False, *[(TABLES, (), (TASTING,) * many) for many in range(7, 10)])

    def test_a_tasting_is_a_tuple_of_three(self):
        self.tastings(False, list(TASTING), TASTING[:2], TASTING + ((),), (), 0, *STRANGE)

    def test_spot_of_a_tasting(self):
        self.tasting_part(True, 0, (0, 0), (0, 1), (1, 0), (2, 0), (2, 1), (2, 2))
        self.tasting_part(False, 0, 0, (), (0,), (1,), (2,), (0, 2), (1, 1), (2, 3), (3, 0), *STRANGE)

    def test_how_many_words(self):
        self.tasting_part(True, 2, (), ("a",), ("a", "b"), ("a", "b", "c"), ("a", "b", "c", "d"))
        self.tasting_part(False, 2, ("a", "b", "c", "d", "e"), tuple("abcdefghijklmnopqrstuvwxyz"))

    def test_words_are_a_tuple_of_texts(self):
        self.tasting_part(False, 2, [], ["a"], {}, {"a": "b"}, None, 0, True, "", "a", "ab", 10 ** 39,
                          (0,), (None,), (True,), (("a",),), (["a"],), ({},), ("a", 0), (0, "a"), ("a", None), ("a", "b", []))

    def test_how_long_a_word_is(self):
        self.tasting_part(True, 2, *[("z" * many,) for many in range(1, 9)])
        self.tasting_part(False, 2, *[("z" * many,) for many in (0, 9, 10, 2000)])
        self.tasting_part(False, 2, ("",), ("", "a"), ("a", "bcdefghij"))

    def test_signs_of_words(self):
        for code in range(128):
            sign = chr(code)
            right = sign in "abcdefghijklmnopqrstuvwxyz"
            self.tasting_part(right, 2, (sign,), (sign + "a",), ("a" + sign,), ("abcdefg" + sign,))

    def test_words_rise(self):
        self.tasting_part(True, 2, ("a", "aa"), ("ab", "b"), ("a", "aa", "ab", "b"), ("aaaaaaaa", "aaaaaaab"))
        self.tasting_part(False, 2, ("a", "a"), ("b", "a"), ("aa", "a"), ("b", "ab"), ("a", "c", "b"), ("a", "b", "b"),
                          ("a", "a", "b"), ("b", "a", "c"), ("a", "b", "d", "c"), ("a", "b", "c", "a"))

    def test_spots_that_the_house_has_not(self):
        for spot in ((1,), (0, 1), (1, 0)):
            self.told(False, ((1,), ((0, spot, 0, 1, ()),), ()))
        for spot in ((0, 1), (1, 0)):
            self.told(False, ((1,), (), ((spot, (), ()),)))

    def test_tables_of_one_evening_are_not_those_of_another(self):
        self.told(True, ((1, 3), (), (((1, 2), (), ()),)))
        self.told(False, ((1, 3), (), (((0, 2), (), ()),)), ((3, 1), (), (((1, 2), (), ()),)))

    def test_deep_and_large_things(self):
        self.told(False, nested(list, 30), nested(tuple, 30), nested(dict, 30), [HOUSE] * 100, tuple(range(8999)))
        self.told(False, ("a" * 2000, "b" * 2000, "c" * 2000), (TABLES, RECIPES * 100, ()), (TABLES, (), TASTINGS * 100))

    def test_nothing_handed_in_is_changed(self):
        things = [list(HOUSE), (list(TABLES), list(RECIPES), [list(TASTINGS[0])]), {"house": [HOUSE]},
                  ((1,), ((0, [], 0, 1, [0, 1]),), ()), ((1,), (), (((0, 0), [1], ["b", "a"]),))]
        before = copy.deepcopy(things)
        for thing in things:
            self.told(False, thing)
            self.assertIs(is_spot(HOUSE, thing), False)
        self.assertEqual(things, before)

    def test_the_same_answer_again(self):
        for thing in (HOUSE, SMALLEST, None, []):
            self.assertIs(is_house(thing), is_house(thing))


class SpotTest(unittest.TestCase):
    def test_all_spots(self):
        for tables in ((1,), (3,), (1, 3), (3, 1), TABLES):
            house = (tables, (), ())
            right = {()}
            for evening, many in enumerate(tables):
                right.add((evening,))
                right |= {(evening, table) for table in range(many)}
            asked = [(), *[(a,) for a in range(-2, 6)], *[(a, b) for a in range(-2, 6) for b in range(-2, 6)]]
            for spot in asked:
                with self.subTest(tables=tables, spot=spot):
                    self.assertIs(is_spot(house, spot), spot in right)

    def test_things_of_other_kinds(self):
        for house in (HOUSE, SMALLEST, FULLEST):
            for thing in (0, 1, *STRANGE):
                with self.subTest(thing=repr(thing)[:300]):
                    self.assertIs(is_spot(house, thing), False)


if __name__ == "__main__":
    unittest.main()
