"""[4], [5], [41], [42], [43]: turns, their numbers, and the order of a tasting's turns, of sound houses."""

import copy
import random
import unittest

from plain import made_sound_house, plain_turns
from samples import SMALLEST, SOUND, STRANGE, UNSOUND, at_house
from tastehouse.errors import NoNumber, NotSound, NoTasting, NotThere, NoTurn, TooMany
from tastehouse.turns import is_turn, many_turns, many_turns_of, number_of, order_of, turn_at, turn_behind

ROW = ((), (0,), (1,), (2,), (3,), (4,), (5,), (6,))


def house_of(*needs, sorts=None, tastings=()):
    return (1,), at_house(*needs, sorts=sorts), tuple(((0, 0), needed, ()) for needed in tastings)


# Eight recipes of three sorts each, all wanted for each of six tastings.
MOST = house_of(*ROW, sorts=(3,) * 8, tastings=((7,),) * 6)
# Recipe 0 of 2 sorts, 1 of 3 sorts cooked of it, 2 of 1 sort: (0, 1) for tasting 0, none for 1, (2,) for 2, (0,) for 3.
FEW = house_of((), (0,), (), sorts=(2, 3, 1), tastings=((1,), (), (2,), (0,)))
FEW_TURNS = [
    (0, (0, 0)), (0, (0, 1)), (0, (0, 2)), (0, (1, 0)), (0, (1, 1)), (0, (1, 2)),
    (1, ()), (2, (0,)), (3, (0,)), (3, (1,)),
]


class IsTurnTest(unittest.TestCase):
    def test_turns(self):
        for turn in FEW_TURNS:
            self.assertIs(is_turn(FEW, turn), True, turn)
        for turn in ((0, (1, 2, 0, 1)), (1, (1, 0, 0, 1)), (2, ()), (3, (2, 1, 0))):
            self.assertIs(is_turn(SOUND, turn), True, turn)
        self.assertIs(is_turn(MOST, (5, (2,) * 8)), True)

    def test_one_place_otherwise(self):
        for thing in (
            (1, (0, 0)), (2, (0, 0)), (4, (0, 0)), (-1, (0, 0)), (10 ** 39, (0, 0)), (False, (0, 0)), (None, (0, 0)),
            ("0", (0, 0)), ((0,), (0, 0)), (0, (2, 0)), (0, (0, 3)), (0, (-1, 0)), (0, (0, -1)), (0, (False, 0)),
            (0, (0, True)), (0, (None, 0)), (0, ("0", 0)), (0, ((0,), 0)), (0, ([0], 0)), (0, (0,)), (0, (0, 0, 0)), (0, ()),
            (0, [0, 0]), (0, 0), (0, "00"), (0, None), (0, {0: 0, 1: 0}), (1, (0,)), (1, []), (1, None), (1, 0), (2, (1,)),
            (2, ()), (3, (2,)), (0, (0, 10 ** 39)), (0,), (0, (0, 0), ()), (0, 0, 0), ((0, 0), 0), [0, (0, 0)], ((0, (0, 0)),),
        ):
            with self.subTest(thing=thing):
                self.assertIs(is_turn(FEW, thing), False)

    def test_other_kinds(self):
        for house in (FEW, SOUND, SMALLEST, MOST):
            for thing in ((), 0, *STRANGE):
                self.assertIs(is_turn(house, thing), False, repr(thing)[:300])

    def test_no_tastings(self):
        self.assertIs(is_turn(SMALLEST, (0, ())), False)

    def test_the_sorts_stand_in_the_order_wanted(self):
        # Of tasting 0 are wanted 2 of one sort, then 1 of two, then 0 of three.
        house = house_of((2, 1), (), (), sorts=(3, 2, 1), tastings=((0,),))
        self.assertIs(is_turn(house, (0, (0, 1, 2))), True)
        self.assertIs(is_turn(house, (0, (2, 1, 0))), False)


class ManyTest(unittest.TestCase):
    def test_of_a_tasting_and_of_the_house(self):
        self.assertEqual([many_turns_of(FEW, tasting) for tasting in range(4)], [6, 1, 1, 2])
        self.assertEqual(many_turns(FEW), 10)
        self.assertEqual([many_turns_of(SOUND, tasting) for tasting in range(4)], [12, 4, 1, 6])
        self.assertEqual(many_turns(SOUND), 23)

    def test_none(self):
        self.assertEqual(many_turns(SMALLEST), 0)
        self.assertEqual(many_turns(house_of((), sorts=(3,))), 0)

    def test_a_tasting_that_wants_no_recipe(self):
        house = house_of((), sorts=(3,), tastings=((),))
        self.assertEqual(many_turns_of(house, 0), 1)
        self.assertEqual(many_turns(house), 1)
        self.assertEqual(order_of(house, 0), ((0, ()),))
        self.assertEqual(turn_at(house, 0), (0, ()))

    def test_where_there_are_many(self):
        self.assertEqual(many_turns_of(MOST, 3), 6561)
        self.assertEqual(many_turns(MOST), 39366)


class NumbersTest(unittest.TestCase):
    def test_each_number_and_back(self):
        for house, turns in ((FEW, FEW_TURNS), (SOUND, plain_turns(SOUND))):
            for number, turn in enumerate(turns):
                self.assertEqual(turn_at(house, number), turn)
                self.assertEqual(number_of(house, turn), number)
                self.assertEqual(turn_behind(house, turn), (turns + [None])[number + 1])

    def test_the_last_ones(self):
        self.assertIsNone(turn_behind(FEW, (3, (1,))))
        self.assertIsNone(turn_behind(MOST, (5, (2,) * 8)))
        self.assertEqual(turn_behind(MOST, (4, (2,) * 8)), (5, (0,) * 8))
        self.assertEqual(turn_behind(MOST, (0, (0, 1, 2, 2, 2, 2, 2, 2))), (0, (0, 2, 0, 0, 0, 0, 0, 0)))

    def test_where_there_are_many(self):
        for number, turn in (
            (0, (0, (0,) * 8)), (6560, (0, (2,) * 8)), (6561, (1, (0,) * 8)), (39365, (5, (2,) * 8)),
            (2 * 6561 + 2187 + 5, (2, (1, 0, 0, 0, 0, 0, 1, 2))),
        ):
            self.assertEqual(turn_at(MOST, number), turn)
            self.assertEqual(number_of(MOST, turn), number)

    def test_not_there(self):
        for house, many in ((FEW, 10), (SOUND, 23), (MOST, 39366), (SMALLEST, 0)):
            for number in (many, many + 1, many + 100, 10 ** 39, 10 ** 60):
                self.assertRaises(NotThere, turn_at, house, number)
            if many:
                turn_at(house, many - 1)

    def test_kinds_told(self):
        told = turn_at(FEW, 3)
        self.assertIsInstance(told, tuple)
        self.assertIsInstance(told[1], tuple)
        self.assertTrue(is_turn(FEW, turn_behind(FEW, told)))


class OrderTest(unittest.TestCase):
    def test_all_turns_of_a_tasting(self):
        self.assertEqual(order_of(FEW, 0), tuple(FEW_TURNS[:6]))
        self.assertEqual([order_of(FEW, tasting) for tasting in (1, 2, 3)], [
            ((1, ()),), ((2, (0,)),), ((3, (0,)), (3, (1,))),
        ])

    def test_81_and_more(self):
        house = house_of(*ROW, sorts=(3, 3, 3, 3, 1, 2, 1, 1), tastings=((3,), (4,), (5,), (7,)))
        for tasting in (0, 1):
            told = order_of(house, tasting)
            self.assertEqual(many_turns_of(house, tasting), 81)
            self.assertEqual(len(told), 81)
            self.assertEqual(told, tuple(turn for turn in plain_turns(house) if turn[0] == tasting))
        for tasting in (2, 3):
            self.assertEqual(many_turns_of(house, tasting), 162)
            self.assertRaises(TooMany, order_of, house, tasting)
        self.assertRaises(TooMany, order_of, MOST, 0)

    def test_just_around_81(self):
        for sorts, many in (((3, 3, 3, 2, 1, 1, 1, 1), 54), ((2, 2, 2, 3, 3, 1, 1, 1), 72), ((3, 3, 3, 3, 1, 1, 1, 1), 81)):
            self.assertEqual(len(order_of(house_of(*ROW, sorts=sorts, tastings=((7,),)), 0)), many)
        for sorts in ((2, 2, 2, 2, 2, 3, 1, 1), (3, 3, 3, 2, 2, 1, 1, 1), (2,) * 7 + (1,)):
            self.assertRaises(TooMany, order_of, house_of(*ROW, sorts=sorts, tastings=((7,),)), 0)


class RefusalsTest(unittest.TestCase):
    def test_tastings(self):
        for house in (FEW, SOUND, SMALLEST, MOST):
            many = len(house[2])
            for thing in (many, many + 1, (), (0,), *STRANGE):
                with self.subTest(thing=repr(thing)[:300]):
                    self.assertRaises(NoTasting, many_turns_of, house, thing)
                    self.assertRaises(NoTasting, order_of, house, thing)

    def test_turns(self):
        for house in (FEW, SOUND, SMALLEST, MOST):
            for thing in ((), 0, (0, (0, 9)), (0, (True,)), (9, ()), *STRANGE):
                with self.subTest(thing=repr(thing)[:300]):
                    self.assertRaises(NoTurn, number_of, house, thing)
                    self.assertRaises(NoTurn, turn_behind, house, thing)

    def test_numbers(self):
        for house in (FEW, SMALLEST, MOST):
            for thing in ((), (0,), -1, -2, *[thing for thing in STRANGE if thing != 10 ** 39]):
                with self.subTest(thing=repr(thing)[:300]):
                    self.assertRaises(NoNumber, turn_at, house, thing)

    def test_an_unsound_house_ahead_of_all(self):
        for house in UNSOUND:
            self.assertRaises(NotSound, many_turns, house)
            for ask in (is_turn, many_turns_of, turn_at, number_of, turn_behind, order_of):
                for thing in (0, 99, -1, True, None, [0], (0, ()), (0, (0, 0))):
                    self.assertRaises(NotSound, ask, house, thing)


class AllHousesTest(unittest.TestCase):
    def test_many_houses_by_the_plain_words(self):
        chance = random.Random(41)
        for number in range(150):
            house = made_sound_house(chance)
            turns = plain_turns(house)
            self.assertEqual(many_turns(house), len(turns), house)
            for tasting in range(len(house[2])):
                right = tuple(turn for turn in turns if turn[0] == tasting)
                self.assertEqual(many_turns_of(house, tasting), len(right), house)
                if len(right) <= 81:
                    self.assertEqual(order_of(house, tasting), right, house)
                else:
                    self.assertRaises(TooMany, order_of, house, tasting)
            for at in chance.sample(range(len(turns)), min(len(turns), 20)):
                self.assertTrue(is_turn(house, turns[at]), house)
                self.assertEqual(turn_at(house, at), turns[at], house)
                self.assertEqual(number_of(house, turns[at]), at, house)
                self.assertEqual(turn_behind(house, turns[at]), (turns + [None])[at + 1], house)
            self.assertRaises(NotThere, turn_at, house, len(turns))

    def test_nothing_handed_in_is_changed_and_the_same_answer_again(self):
        house = copy.deepcopy(SOUND)
        things = [[0, [1]], {"a": [0]}, (0, [1]), (1, (1, 0, 0, 1))]
        before = copy.deepcopy(things)

        def asked():
            told = [ask(house, tasting) for ask in (many_turns_of, order_of) for tasting in range(4)]
            told += [ask(house, things[3]) for ask in (number_of, turn_behind)]
            return told + [many_turns(house), turn_at(house, 7), [is_turn(house, thing) for thing in things]]
        self.assertEqual(asked(), asked())
        for thing in things[:3]:
            self.assertRaises(NoTurn, number_of, house, thing)
            self.assertRaises(NoTurn, turn_behind, house, thing)
            self.assertRaises(NoNumber, turn_at, house, thing)
            self.assertRaises(NoTasting, order_of, house, thing)
        self.assertEqual(house, SOUND)
        self.assertEqual(things, before)


if __name__ == "__main__":
    unittest.main()
