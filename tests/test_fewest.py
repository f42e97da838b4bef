"""[3], [4], [5], [7], [91], [92], [93]: how many pots are cooked, the fewest, and the tables that show it."""

import copy
import itertools
import random
import unittest

from plain import made_busy_house, made_order, made_sound_house, plain_course, plain_turns
from samples import KITCHEN, NO_ORDERS, SMALLEST, STRANGE, UNSOUND, at_house, nested
from tastehouse.errors import NoOrder, NotSound, TooMany
from tastehouse.fewest import best_table, cooked, fewest_order, fewest_pots, is_table
from tastehouse.runs import run_list
from tastehouse.turns import order_of

FIRST, SECOND, BESIDE, NOTHING = (0, (0, 0, 0, 0)), (0, (0, 0, 0, 1)), (3, (0,)), (4, ())

# One recipe of two sorts for the house, and one of two sorts that is cooked of it.
SMALL = ((1,), at_house((), (0,), sorts=(2, 2)), (((0, 0), (1,), ()), ((0, 0), (0,), ())))
X, X1 = (0, (), (0,)), (0, (), (1,))
Y, Y1 = (1, (), (0, 0)), (1, (), (1, 0))


def plain_cooks(house, order):
    """For each turn of an order how many pots are cooked for it, and which stand behind what is poured out for it."""
    course = plain_course(house, order, 1, lambda what: True)
    cooks, many = [], 0
    for word, thing in course.deeds:
        many += word == "cook"
        if word == "taste":
            cooks.append(many)
            many = 0
    return list(zip(cooks, course.behind))


def plain_states(house, order):
    """All states, each with the fewest pots that are cooked behind it, and all steps between them."""
    floors, steps = {}, set()
    for row in itertools.permutations(order):
        told = plain_cooks(house, row)
        states = [(tuple(sorted(row[at:])), told[at - 1][1] if at else ()) for at in range(len(row) + 1)]
        for at, state in enumerate(states):
            left = sum(many for many, pots in told[at:])
            floors[state] = min(floors.get(state, left), left)
        steps |= {(states[at], told[at][0], states[at + 1]) for at in range(len(row))}
    return floors, steps


def plain_is_table(house, order, thing, states=None):
    """By the words of [93], of a tuple of tuples (left, pots, floor) with the right kinds in them."""
    states, steps = states or plain_states(house, order)
    if list(thing) != sorted(set(thing)) or sorted((left, pots) for left, pots, floor in thing) != sorted(states):
        return False
    floors = {(left, pots): floor for left, pots, floor in thing}
    if any(floors[state] != 0 for state in floors if state[0] == ()) or min(floors.values()) < 0:
        return False
    return all(floors[one] <= many + floors[other] for one, many, other in steps)


class CookedTest(unittest.TestCase):
    def test_by_hand(self):
        for order, right in (((), 0), ((NOTHING,), 0), ((BESIDE,), 1), ((FIRST,), 4), ((FIRST, SECOND), 5),
                             ((FIRST, BESIDE, SECOND), 6),
                             ((FIRST, (2, (0, 0, 0)), SECOND), 9), ((FIRST, (0, (1, 0, 0, 0))), 8)):
            self.assertEqual(cooked(KITCHEN, order), right)
        self.assertEqual(cooked(SMALLEST, ()), 0)

    def test_the_same_pot_for_one_tasting_is_cooked_anew(self):
        house = ((1,), at_house((), (), keeps=(0, 3), sorts=(1, 2)), (((0, 0), (0, 1), ()),))
        self.assertEqual(cooked(house, ((0, (0, 0)), (0, (0, 1)))), 4)

    def test_made_houses(self):
        chance = random.Random(91)
        lengths = set()
        for number in range(150):
            house = made_sound_house(chance)
            order = made_order(chance, house, 12)
            lengths.add(len(order))
            told = cooked(house, order)
            self.assertEqual(told, [word for word, thing in run_list(house, order, (), 1)].count("cook"))
            self.assertEqual(told, sum(many for many, pots in plain_cooks(house, order)))
        self.assertTrue(lengths >= {0, 1, 2, 12})

    def test_a_told_order_of_more_turns(self):
        house = ((1,), at_house((), (0,), (1,), (2,), keeps=(3, 2, 1, 0), sorts=(3,) * 4), (((0, 0), (3,), ()),))
        # One change of the first sort is one of all others, and so on.
        self.assertEqual(cooked(house, order_of(house, 0)), 3 + 9 + 27 + 81)


class FewestTest(unittest.TestCase):
    def test_by_hand(self):
        zero, one = (0, (0, 0)), (0, (1, 0))
        for order, right, many in (
            ((), (), 0), ((NOTHING,), (NOTHING,), 0), ((one,), (one,), 2), ((one, zero), (zero, one), 4),
            (((1, (1,)), zero, (1, (0,)), one), (zero, (1, (0,)), one, (1, (1,))), 4),
        ):
            house = KITCHEN if NOTHING in order else SMALL
            self.assertEqual(fewest_order(house, order), right)
            self.assertEqual(fewest_pots(house, order), many)
            self.assertEqual(cooked(house, right), many)
        self.assertEqual(fewest_order(SMALLEST, ()), ())
        self.assertEqual(fewest_pots(SMALLEST, ()), 0)

    def test_the_first_turn_is_not_always_the_best_one(self):
        # Two evenings: the turns of each must be had together, though their numbers alternate.
        house = ((1, 1), at_house((), keeps=(2,)), tuple(((number % 2, 0), (0,), ()) for number in range(5)))
        turns = tuple((number, (0,)) for number in range(5))
        self.assertEqual(cooked(house, turns), 5)
        self.assertEqual(fewest_pots(house, turns), 2)
        self.assertEqual(fewest_order(house, turns), tuple(turns[number] for number in (0, 2, 4, 1, 3)))
        # With the house's 0 cooked for one sort and the other, the first turn stands last.
        house = ((1,), at_house((), (), sorts=(2, 2)), (((0, 0), (0, 1), ()), ((0, 0), (0,), ()), ((0, 0), (1,), ())))
        order = ((0, (0, 0)), (1, (0,)), (1, (1,)), (2, (1,)))
        right = min((sum(many for many, pots in plain_cooks(house, row)), row) for row in itertools.permutations(order))
        self.assertEqual((fewest_pots(house, order), fewest_order(house, order)), right)

    def test_against_all_orders(self):
        chance = random.Random(921)
        lengths, moved = set(), 0
        for number in range(120):
            house = made_busy_house(chance) if number % 2 else made_sound_house(chance)
            order = made_order(chance, house, 5 if number % 5 == 0 else 4)
            right = min((sum(many for many, pots in plain_cooks(house, row)),
                         row) for row in itertools.permutations(order))
            self.assertEqual((fewest_pots(house, order), fewest_order(house, order)), right, (house, order))
            other = tuple(chance.sample(order, len(order)))
            self.assertEqual((fewest_pots(house, other), fewest_order(house, other)), right)
            lengths.add(len(order))
            moved += right[1] != tuple(sorted(order))
        self.assertEqual(lengths, set(range(6)))
        self.assertGreater(moved, 5)

    def test_five_turns_and_six(self):
        turns = tuple(plain_turns(KITCHEN)[:13])
        self.assertEqual(sorted(fewest_order(KITCHEN, turns[:5])), list(turns[:5]))
        for many in (6, 7, 12, 13):
            self.assertRaises(TooMany, fewest_order, KITCHEN, turns[:many])
            self.assertRaises(TooMany, fewest_pots, KITCHEN, turns[:many])
            right = sum(one for one, pots in plain_cooks(KITCHEN, turns[:many]))
            self.assertEqual(cooked(KITCHEN, turns[:many]), right)


class TableTest(unittest.TestCase):
    def test_by_hand(self):
        zero, one = (0, (0, 0)), (0, (1, 0))
        self.assertEqual(best_table(SMALL, (one, zero)), (
            ((), (X, Y), 0), ((), (X1, Y1), 0), ((zero,), (X1, Y1), 2), ((zero, one), (), 4), ((one,), (X, Y), 2),
        ))
        self.assertEqual(best_table(SMALL, ()), (((), (), 0),))
        self.assertEqual(best_table(KITCHEN, (NOTHING,)), (((), (), 0), ((NOTHING,), (), 0)))

    def test_what_is_kept_for_one_tasting_does_not_stand_behind_it(self):
        house = ((1,), at_house((), (0,), keeps=(1, 0)), (((0, 0), (1,), ()),))
        self.assertEqual(best_table(house, ((0, (0, 0)),)), (((), ((0, (0, 0), (0,)),), 0), (((0, (0, 0)),), (), 2)))

    def test_the_pots_stand_in_the_order_in_which_they_were_cooked(self):
        house = ((1,), at_house((), ()), (((0, 0), (0,), ()), ((0, 0), (1,), ())))
        one, two, zero, other = (0, (0,)), (1, (0,)), (0, (), (0,)), (1, (), (0,))
        self.assertEqual(best_table(house, (one, two)), (
            ((), (zero, other), 0), ((), (other, zero), 0), ((one,), (other,), 1), ((one, two), (), 2),
            ((two,), (zero,), 1),
        ))

    def test_against_all_states(self):
        chance = random.Random(93)
        for number in range(80):
            house = made_sound_house(chance) if number % 2 else made_busy_house(chance)
            order = made_order(chance, house, 5 if number % 4 == 0 else 4)
            floors, steps = plain_states(house, order)
            table = best_table(house, order)
            self.assertEqual(table, tuple(sorted((*state, floor) for state, floor in floors.items())), (house, order))
            self.assertIs(is_table(house, order, table), True)
            self.assertIs(plain_is_table(house, order, table, (floors, steps)), True)
            self.assertEqual(best_table(house, tuple(sorted(order))), table)
            # The promise, as the table shows it.
            told = {row[:2]: row[2] for row in table}[tuple(sorted(order)), ()]
            self.assertEqual(cooked(house, fewest_order(house, order)), told)
            self.assertEqual(min(cooked(house, row) for row in itertools.permutations(order)), told)

    def test_five_turns_and_six(self):
        turns = tuple(plain_turns(KITCHEN)[:12])
        table = best_table(KITCHEN, turns[:5])
        self.assertIs(is_table(KITCHEN, turns[:5], table), True)
        self.assertIs(is_table(KITCHEN, turns[:4], table), False)
        for many in (6, 12):
            self.assertRaises(TooMany, best_table, KITCHEN, turns[:many])
            for thing in (table, (), None, [], 0):
                self.assertRaises(TooMany, is_table, KITCHEN, turns[:many], thing)


class IsTableTest(unittest.TestCase):
    order = (FIRST, BESIDE, SECOND, (2, (0, 0, 0)))

    def setUp(self):
        self.table = best_table(KITCHEN, self.order)
        self.states = plain_states(KITCHEN, self.order)

    def told(self, thing, right):
        self.assertIs(is_table(KITCHEN, self.order, thing), right)

    def with_row(self, at, *rows):
        return (*self.table[:at], *rows, *self.table[at + 1:])

    def test_one_floor_less_or_more(self):
        met = set()
        for at, (left, pots, floor) in enumerate(self.table):
            self.told(self.with_row(at, (left, pots, floor + 1)), False)
            for less in (floor - 1, 0, -1):
                thing = self.with_row(at, (left, pots, less))
                right = plain_is_table(KITCHEN, self.order, thing, self.states)
                met.add(right)
                self.told(thing, right)
        self.assertEqual(met, {True, False})

    def test_lower_floors_that_are_right(self):
        self.told(tuple((left, pots, 0) for left, pots, floor in self.table), True)
        self.told(tuple((left, pots, min(floor, 1)) for left, pots, floor in self.table), True)
        self.told(tuple((left, pots, max(floor - 1, 0)) for left, pots, floor in self.table), True)
        chance = random.Random(94)
        met = {True: 0, False: 0}
        for number in range(400):
            thing = tuple((left, pots, max(floor - chance.choice((0, 0, 1, 2)) * (chance.random() < 0.1), 0)) for left,
                          pots, floor in self.table)
            right = plain_is_table(KITCHEN, self.order, thing, self.states)
            met[right] += 1
            self.told(thing, right)
        self.assertGreater(min(met.values()), 20)

    def test_rows(self):
        for at, (left, pots, floor) in enumerate(self.table):
            other = self.table[at - 1]
            for rows in ((), (self.table[at],) * 2, (other,), ((left, pots),), ((left, pots, floor, 0),),
                         ((pots, left, floor),),
                         ((left, floor, pots),), ((left[1:], pots, floor) if left else (self.order, pots, floor),),
                         (((), (), 0),),
                         ((left, pots[::-1], floor) if len(pots) > 1 else (left, (*pots, (4, (), (2,))), floor),),
                         ((left[::-1], pots, floor) if len(left) > 1 else ((*left, NOTHING), pots, floor),),
                         ((left, pots, (floor,)),),
                         (list(self.table[at]),), ((list(left), pots, floor),), ((left, list(pots), floor),), (None,),
                         (0,), ((),), ([],), ({},),
                         ((left, pots, None),), ((left, pots, str(floor)),), ((left, pots, [floor]),),
                         ((left, pots, floor), ((), (), 0))):
                self.told(self.with_row(at, *rows), False)
            if at:
                self.told((*self.table[:at - 1], self.table[at], other, *self.table[at + 1:]), False)
        self.told(self.table[::-1], False)
        self.told(self.table + self.table, False)
        self.told((*self.table, ((NOTHING,), (), 0)), False)

    def test_truths_in_place_of_numbers(self):
        zeros = tuple((left, pots, 0) for left, pots, floor in self.table)
        for at, (left, pots, floor) in enumerate(zeros):
            for row in ((left, pots, False), *self.falsified(left, pots)):
                self.assertEqual(row, zeros[at])
                self.told((*zeros[:at], row, *zeros[at + 1:]), False)
        house, order = SMALL, ((0, (1, 0)),)
        self.assertIs(is_table(house, order, ((order, (), 1), ((), (X1, Y1), 0))[::-1]), True)
        self.assertIs(is_table(house, order, ((order, (), True), ((), (X1, Y1), 0))[::-1]), False)
        self.assertIs(is_table(house, order, ((((0, (True, 0)),), (), 1), ((), (X1, Y1), 0))[::-1]), False)
        self.assertIs(is_table(house, order, ((order, (), 1), ((), (X1, (True, (), (1, 0))), 0))[::-1]), False)

    def falsified(self, left, pots):
        """The row, with floor 0, with a truth in the place of one number, for some of those that it has."""
        rows = []
        if left and left[0][0] == 0:
            rows.append((((False, left[0][1]), *left[1:]), pots, 0))
        if pots and pots[0][0] == 0:
            rows.append((left, ((False, *pots[0][1:]), *pots[1:]), 0))
            rows.append((left, ((*pots[0][:2], (False,)), *pots[1:]), 0))
        return rows

    def test_other_kinds(self):
        for thing in (list(self.table), dict(enumerate(self.table)), str(self.table), (self.table,), {}, set, (),
                      ((),), None,
                      nested(tuple, 30), [list(row) for row in self.table], tuple(list(row) for row in self.table),
                      tuple(row[:2] for row in self.table), tuple(row[2] for row in self.table), *STRANGE):
            with self.subTest(thing=repr(thing)[:300]):
                self.told(thing, False)

    def test_of_another_order_or_house(self):
        self.assertIs(is_table(KITCHEN, self.order[::-1], self.table), True)
        self.assertIs(is_table(KITCHEN, self.order[:3], self.table), False)
        self.assertIs(is_table(KITCHEN, (*self.order[:3], (2, (0, 0, 1))), self.table), False)
        self.assertIs(is_table(KITCHEN, (), (((), (), 0),)), True)
        self.assertIs(is_table(KITCHEN, (), ()), False)
        self.assertIs(is_table(KITCHEN, (), (((), (), 1),)), False)
        self.assertIs(is_table(SMALLEST, (), (((), (), 0),)), True)

    def test_made_houses_with_one_thing_otherwise(self):
        chance = random.Random(95)
        for number in range(60):
            house = made_busy_house(chance) if number % 2 else made_sound_house(chance)
            order = made_order(chance, house, 4)
            table, states = best_table(house, order), plain_states(house, order)
            for each in range(6):
                rows = list(table)
                at, to = chance.randrange(len(rows)), chance.randrange(len(rows))
                left, pots, floor = rows[at]
                rows[at] = (left, pots, max(floor + chance.randint(-3, 1), 0))
                if chance.random() < 0.2:
                    rows[at], rows[to] = rows[to], rows[at]
                self.assertIs(is_table(house, order, tuple(rows)), plain_is_table(house, order, tuple(rows), states))


class RefusalsTest(unittest.TestCase):
    def refused(self, error, house, order):
        for function in (cooked, fewest_order, fewest_pots, best_table):
            self.assertRaises(error, function, house, order)
        for thing in ((), None, (((), (), 0),)):
            self.assertRaises(error, is_table, house, order, thing)

    def test_orders(self):
        seven = tuple(plain_turns(KITCHEN)[:7])
        for thing in (*NO_ORDERS, *STRANGE, (*seven, seven[0]), (*seven, None), list(seven)):
            with self.subTest(thing=repr(thing)[:300]):
                self.refused(NoOrder, KITCHEN, thing)

    def test_an_unsound_house_ahead_of_all(self):
        for house in UNSOUND:
            for order in ((), None, ((0, (0, 0)),), [], ((0, (0, 0)),) * 7):
                self.refused(NotSound, house, order)


class ApartTest(unittest.TestCase):
    def test_nothing_handed_in_is_changed_and_the_same_answer_again(self):
        house, order = copy.deepcopy((KITCHEN, (FIRST, BESIDE, SECOND)))
        table = best_table(house, order)

        def asked():
            return [cooked(house, order), fewest_order(house, order), fewest_pots(house, order),
                    best_table(house, order), is_table(house, order, table)]
        self.assertEqual(asked(), asked())
        self.assertEqual((house, order), (KITCHEN, (FIRST, BESIDE, SECOND)))
        for thing in ([0, [1]], {"a": [0]}, ([0],), [list(row) for row in table], tuple(list(row) for row in table)):
            before = copy.deepcopy(thing)
            self.assertIs(is_table(house, order, thing), False)
            self.assertRaises(NoOrder, fewest_order, house, thing)
            self.assertEqual(thing, before)

    def test_kinds_told(self):
        self.assertIsInstance(fewest_order(KITCHEN, (FIRST, BESIDE)), tuple)
        self.assertIsInstance(best_table(KITCHEN, (FIRST, BESIDE)), tuple)
        for row in best_table(KITCHEN, (FIRST, BESIDE)):
            self.assertEqual([isinstance(part, kind) for part, kind in zip(row, (tuple, tuple, int))], [True] * 3)


if __name__ == "__main__":
    unittest.main()
