"""[4], [5], [51], [52]: pots of turns, those shared, and how many unlike ones an order wants."""

import copy
import random
import unittest

from plain import made_order, made_sound_house, plain_pots, plain_turns
from samples import KITCHEN, NO_ORDERS, SMALLEST, SOUND, STRANGE, UNSOUND, at_house
from tastehouse.errors import NoOrder, NotSound, NoTurn
from tastehouse.pots import pots_of, shared, unlike_pots
from tastehouse.turns import order_of


class PotsTest(unittest.TestCase):
    def test_each_keep_with_its_place(self):
        self.assertEqual(pots_of(KITCHEN, (0, (0, 0, 0, 0))), (
            (0, (), (0,)), (1, (0,), (0, 0)), (2, (0, 0), (0, 0, 0)), (3, (0, 0, 0), (0, 0, 0, 0)),
        ))
        for keep, place in ((0, (1, 2, 1)), (1, (1, 2)), (2, (1,)), (3, ())):
            house = ((1, 3), ((5, (), keep, 1, ()),), (((0, 0), (), ()), ((1, 2), (5,), ())))
            self.assertEqual(pots_of(house, (1, (0,))), ((0, place, (0,)),))

    def test_the_place_is_the_tastings_not_the_spot_where_it_is_told(self):
        for spot in ((), (0,), (0, 1)):
            house = ((2,), ((0, spot, 1, 1, ()),), (((0, 1), (0,), ()),))
            self.assertEqual(pots_of(house, (0, (0,))), ((0, (0, 1), (0,)),))
            house = ((2,), ((0, spot, 3, 1, ()),), (((0, 1), (0,), ()),))
            self.assertEqual(pots_of(house, (0, (0,))), ((0, (), (0,)),))

    def test_the_sorts_of_all_that_it_is_cooked_of(self):
        self.assertEqual(pots_of(KITCHEN, (0, (1, 0, 1, 1))), (
            (0, (), (1,)), (1, (0,), (1, 0)), (2, (0, 0), (1, 0, 1)), (3, (0, 0, 0), (1, 0, 1, 1)),
        ))
        self.assertEqual(pots_of(KITCHEN, (1, (2, 1, 0, 1))), (
            (4, (), (2,)), (0, (), (1,)), (1, (0,), (1, 0)), (2, (0, 1), (1, 0, 1)),
        ))

    def test_in_the_order_wanted_for_the_one_alone(self):
        # For the tasting 1, 2, 0 stand in this order; for recipe 0 alone 2 stands ahead of 1.
        house = ((1,), at_house((2, 1), (), (), sorts=(3, 3, 3)), (((0, 0), (1, 2, 0), ()),))
        self.assertEqual(pots_of(house, (0, (0, 1, 2))), ((1, (), (0,)), (2, (), (1,)), (0, (), (1, 0, 2))))

    def test_none(self):
        self.assertEqual(pots_of(KITCHEN, (4, ())), ())


class SharedTest(unittest.TestCase):
    def test_what_both_want(self):
        one = (0, (1, 0, 1, 1))
        for other, right in (
            ((0, (0, 0, 1, 1)), []),
            ((0, (1, 1, 1, 1)), [(0, (), (1,))]),
            ((0, (1, 0, 0, 1)), [(0, (), (1,)), (1, (0,), (1, 0))]),
            ((0, (1, 0, 1, 0)), [(0, (), (1,)), (1, (0,), (1, 0)), (2, (0, 0), (1, 0, 1))]),
            # Another table of this evening, another evening, other recipes, none.
            ((1, (0, 1, 0, 1)), [(0, (), (1,)), (1, (0,), (1, 0))]),
            ((2, (1, 0, 1)), [(0, (), (1,))]),
            ((3, (1,)), []),
            ((4, ()), []),
        ):
            self.assertEqual(shared(KITCHEN, one, other), right, other)

    def test_also_those_kept_for_one_tasting(self):
        one = (0, (1, 0, 1, 1))
        self.assertEqual(shared(KITCHEN, one, one), list(pots_of(KITCHEN, one)))
        house = ((1,), at_house((), (), keeps=(0, 0), sorts=(2, 2)), (((0, 0), (0, 1), ()), ((0, 0), (0, 1), ())))
        self.assertEqual(shared(house, (0, (0, 1)), (0, (1, 1))), [(1, (0, 0, 0), (1,))])
        self.assertEqual(shared(house, (0, (0, 1)), (1, (0, 1))), [])

    def test_in_the_first_ones_order(self):
        house = ((1,), at_house((), ()), (((0, 0), (0, 1), ()), ((0, 0), (1, 0), ())))
        self.assertEqual(shared(house, (0, (0, 0)), (1, (0, 0))), [(0, (), (0,)), (1, (), (0,))])
        self.assertEqual(shared(house, (1, (0, 0)), (0, (0, 0))), [(1, (), (0,)), (0, (), (0,))])

    def test_a_told_list_is_the_askers_own(self):
        one = (0, (1, 0, 1, 1))
        told = shared(KITCHEN, one, one)
        self.assertIsInstance(told, list)
        told.clear()
        self.assertEqual(shared(KITCHEN, one, one), list(pots_of(KITCHEN, one)))
        told = shared(KITCHEN, one, (4, ()))
        told.append(0)
        self.assertEqual(shared(KITCHEN, one, (4, ())), [])


class UnlikePotsTest(unittest.TestCase):
    def test_none(self):
        self.assertEqual(unlike_pots(KITCHEN, ()), 0)
        self.assertEqual(unlike_pots(SMALLEST, ()), 0)
        self.assertEqual(unlike_pots(KITCHEN, ((4, ()),)), 0)

    def test_shared_ones_once(self):
        self.assertEqual(unlike_pots(KITCHEN, ((2, (0, 0, 0)),)), 3)
        self.assertEqual(unlike_pots(KITCHEN, ((2, (0, 0, 0)), (2, (0, 0, 1)))), 4)
        self.assertEqual(unlike_pots(KITCHEN, ((2, (0, 0, 0)), (2, (0, 1, 0)))), 5)
        self.assertEqual(unlike_pots(KITCHEN, ((2, (0, 0, 0)), (2, (1, 0, 0)))), 6)
        # 0 is kept for the house, 1 for an evening, 2 for a table; in another evening 1 and 2 are other ones.
        self.assertEqual(unlike_pots(KITCHEN, ((2, (0, 0, 0)), (1, (0, 0, 0, 0)))), 6)
        # Not next to one another.
        self.assertEqual(unlike_pots(KITCHEN, ((3, (0,)), (4, ()), (2, (0, 0, 0)), (1, (0, 0, 0, 0)))), 6)

    def test_those_kept_for_one_tasting_anew_for_each_turn(self):
        house = ((1,), at_house((), (), keeps=(0, 3), sorts=(2, 2)), (((0, 0), (0, 1), ()), ((0, 0), (0, 1), ())))
        self.assertEqual(unlike_pots(house, ((0, (0, 0)),)), 2)
        # The same pot of recipe 0 for both turns, counted anew.
        self.assertEqual(unlike_pots(house, ((0, (0, 0)), (0, (0, 1)))), 4)
        self.assertEqual(unlike_pots(house, ((0, (0, 0)), (1, (0, 0)))), 3)
        self.assertEqual(unlike_pots(house, ((0, (0, 0)), (0, (0, 1)), (0, (1, 0)), (0, (1, 1)))), 6)

    def test_a_long_told_order(self):
        house = ((1,), at_house((), (), (), (), keeps=(3, 2, 1, 0), sorts=(3,) * 4),
                 (((0, 0), (0, 1, 2), ()), ((0, 0), (3, 0, 1), ()), ((0, 0), (0, 1), ())))
        self.assertEqual(unlike_pots(house, order_of(house, 0)), 9)
        self.assertEqual(unlike_pots(house, order_of(house, 1)), 27 + 6)
        self.assertEqual(unlike_pots(house, order_of(house, 0) + order_of(house, 1) + order_of(house, 2)), 27 + 9)


class RefusalsTest(unittest.TestCase):
    def test_turns(self):
        for thing in ((), 0, (0, ()), (4, (0,)), (3, (True,)), (5, ()), [4, ()], *STRANGE):
            with self.subTest(thing=repr(thing)[:300]):
                self.assertRaises(NoTurn, pots_of, KITCHEN, thing)
                self.assertRaises(NoTurn, shared, KITCHEN, thing, (4, ()))
                self.assertRaises(NoTurn, shared, KITCHEN, (4, ()), thing)
                self.assertRaises(NoTurn, shared, KITCHEN, thing, thing)
                self.assertRaises(NoTurn, pots_of, SMALLEST, thing)

    def test_orders(self):
        for thing in (*NO_ORDERS, *STRANGE):
            with self.subTest(thing=repr(thing)[:300]):
                self.assertRaises(NoOrder, unlike_pots, KITCHEN, thing)

    def test_an_unsound_house_ahead_of_all(self):
        for house in UNSOUND:
            for thing in ((), (0, ()), (0, (0, 0)), None, 0, [0]):
                self.assertRaises(NotSound, pots_of, house, thing)
                self.assertRaises(NotSound, shared, house, thing, thing)
                self.assertRaises(NotSound, unlike_pots, house, thing)


class AllHousesTest(unittest.TestCase):
    def test_many_houses_by_the_plain_words(self):
        chance = random.Random(51)
        for number in range(200):
            house = made_sound_house(chance)
            turns = plain_turns(house)
            some = chance.sample(turns, min(len(turns), 6))
            for one in some:
                self.assertEqual(pots_of(house, one), plain_pots(house, one), house)
                for other in some:
                    right = [pot for pot in plain_pots(house, one) if pot in plain_pots(house, other)]
                    self.assertEqual(shared(house, one, other), right, house)
            order = made_order(chance, house, 12)
            # With its turn's place beside it each pot kept for one tasting is unlike all others.
            right = {(pot, place if house[1][pot[0]][2] == 0 else None)
                     for place, turn in enumerate(order) for pot in plain_pots(house, turn)}
            self.assertEqual(unlike_pots(house, order), len(right), house)

    def test_nothing_handed_in_is_changed_and_the_same_answer_again(self):
        house, order = copy.deepcopy(SOUND), ((0, (1, 2, 0, 1)), (1, (1, 0, 0, 1)), (2, ()))

        def asked():
            return [pots_of(house, order[0]), shared(house, order[0], order[1]), unlike_pots(house, order)]
        self.assertEqual(asked(), asked())
        self.assertEqual(house, SOUND)
        self.assertEqual(order, ((0, (1, 2, 0, 1)), (1, (1, 0, 0, 1)), (2, ())))
        for thing in ([0, [1]], {"a": [0]}, ([0],), [(2, ())]):
            before = copy.deepcopy(thing)
            self.assertRaises(NoTurn, pots_of, house, thing)
            self.assertRaises(NoTurn, shared, house, thing, thing)
            self.assertRaises(NoOrder, unlike_pots, house, thing)
            self.assertEqual(thing, before)


if __name__ == "__main__":
    unittest.main()
