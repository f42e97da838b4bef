"""[4], [5], [7], [61], [62], [63]: runs of orders, whatever goes wrong."""

import copy
import random
import unittest

from plain import by_mishaps, every_run, made_mishaps, made_order, made_sound_house, plain_pots, plain_run, plain_wanted
from samples import KITCHEN, NO_ORDERS, SMALLEST, STRANGE, UNSOUND, at_house
from tastehouse.errors import NoMishaps, NoNumber, NoOrder, NotSound
from tastehouse.runs import came_of, run_list, standing_as
from tastehouse.turns import order_of

# The turns of the kitchen that the runs below are made of, and their pots.
FIRST = (0, (0, 0, 0, 0))
A, B, C, D = (0, (), (0,)), (1, (0,), (0, 0)), (2, (0, 0), (0, 0, 0)), (3, (0, 0, 0), (0, 0, 0, 0))
D1 = (3, (0, 0, 0), (0, 0, 0, 1))
C1, D01 = (2, (0, 0), (0, 0, 1)), (3, (0, 0, 0), (0, 0, 1, 0))
E = (4, (), (0,))
NOTHING = (4, ())
BESIDE = (3, (0,))

NO_MISHAPS = (
    0, 1, None, True, "", "cook", [], {}, [("cook", 0)], ("cook", 0), (("cook", 0), 0), (("cook", 0), ("cook", 0)),
    (("cook", 1), ("cook", 0)), (("pour", 0), ("cook", 0)), (("taste", 0), ("pour", 1)), (("cook", -1),),
    (("cook", True),), (("cook", False),), (("cook", None),), (("cook", "0"),), (("cook", (0,)),), (("burn", 0),),
    (("Cook", 0),), (("miss", 0),), (("", 0),), ((None, 0),), ((0, 0),), (("cook",),), (("cook", 0, 0),), (["cook", 0],),
    (([], 0),), (({}, 0),), (((), 0),), ("cook",), ("ab",), (("cook", 0), ("pour", 2), ("pour", 2)), ((("cook", 0),),), ({},),
    (("cook", 0), ("pour", 1), ("taste", 5), ("pour", 2)), (("cook", 2), ("taste", 1), ("taste", 0)), (("cook", [0]),),
)


def pours(*pots):
    return [("pour", pot) for pot in pots]


def cooks(*pots):
    return [("cook", pot) for pot in pots]


class WellTest(unittest.TestCase):
    """Runs where nothing goes wrong."""

    def told(self, order, right, house=KITCHEN):
        self.assertEqual(run_list(house, order, (), 1), right)
        self.assertEqual(came_of(house, order, (), 1), ("good",) * len(order))

    def test_without_turns(self):
        for house in (KITCHEN, SMALLEST):
            for mishaps in ((), (("cook", 0), ("pour", 0), ("taste", 0))):
                self.assertEqual(run_list(house, (), mishaps, 1), [])
                self.assertEqual(came_of(house, (), mishaps, 1), ())

    def test_a_turn_that_wants_nothing(self):
        self.told((NOTHING,), [("taste", NOTHING)])

    def test_one_turn(self):
        self.told((FIRST,), cooks(A, B, C, D) + [("taste", FIRST)] + pours(D, C, B, A))

    def test_pots_stay_and_one_is_of_another_sort(self):
        second = (0, (0, 0, 0, 1))
        self.told((FIRST, second), [
            *cooks(A, B, C, D), ("taste", FIRST), *pours(D), *cooks(D1), ("taste", second), *pours(D1, C, B, A),
        ])

    def test_kept_for_one_tasting_is_cooked_anew_though_the_same(self):
        house = ((1,), at_house((), (), keeps=(0, 3), sorts=(1, 2)), (((0, 0), (0, 1), ()),))
        one, two = (0, (0, 0)), (0, (0, 1))
        same, zero, other = (0, (0, 0, 0), (0,)), (1, (), (0,)), (1, (), (1,))
        self.told((one, two), [
            *cooks(same, zero), ("taste", one), *pours(same), *pours(zero), *cooks(same, other), ("taste", two),
            *pours(same), *pours(other),
        ], house)

    def test_another_sort_wanted_and_what_is_cooked_of_it_goes(self):
        second = (0, (0, 0, 1, 0))
        self.told((FIRST, second), [
            *cooks(A, B, C, D), ("taste", FIRST), *pours(D), *pours(C), *cooks(C1, D01), ("taste", second),
            *pours(D01), *pours(C1, B, A),
        ])

    def test_one_goes_that_the_turn_does_not_want_since_it_is_cooked_of_one_that_goes(self):
        # For the first turn 1 is cooked of 0; the second one wants 0 of another sort and no 1.
        house = ((1,), at_house((), (0,), (1,), sorts=(2, 1, 1)), (((0, 0), (2,), ()), ((0, 0), (0,), ())))
        one, two = (0, (0, 0, 0)), (1, (1,))
        self.told((one, two), [
            *cooks((0, (), (0,)), (1, (), (0, 0)), (2, (), (0, 0, 0))), ("taste", one),
            *pours((2, (), (0, 0, 0)), (1, (), (0, 0)), (0, (), (0,))), *cooks((0, (), (1,))), ("taste", two),
            *pours((0, (), (1,))),
        ], house)
        # The other way round nothing goes that is not wanted otherwise; the same sort stays.
        self.told(((1, (0,)), one), [
            *cooks((0, (), (0,))), ("taste", (1, (0,))), *cooks((1, (), (0, 0)), (2, (), (0, 0, 0))), ("taste", one),
            *pours((2, (), (0, 0, 0)), (1, (), (0, 0)), (0, (), (0,))),
        ], house)

    def test_another_table_and_another_evening(self):
        table, evening = (1, (0, 0, 0, 0)), (2, (0, 0, 0))
        c_table, b_evening, c_evening = (2, (0, 1), (0, 0, 0)), (1, (1,), (0, 0)), (2, (1, 0), (0, 0, 0))
        self.told((FIRST, table, evening), [
            *cooks(A, B, C, D), ("taste", FIRST), *pours(D),
            *pours(C), *cooks(E, c_table), ("taste", table),
            *pours(c_table), *pours(B), *cooks(b_evening, c_evening), ("taste", evening),
            *pours(c_evening, b_evening, E, A),
        ])

    def test_a_pot_that_stays_though_a_turn_does_not_want_it(self):
        third = (0, (0, 0, 0, 1))
        self.told((FIRST, BESIDE, NOTHING, third), [
            *cooks(A, B, C, D), ("taste", FIRST), *pours(D), *cooks(E), ("taste", BESIDE), ("taste", NOTHING),
            *cooks(D1), ("taste", third), *pours(D1), *pours(E, C, B, A),
        ])

    def test_poured_out_for_a_turn_that_wants_nothing_at_another_place(self):
        house = ((2,), at_house((), (), keeps=(1, 3)), (((0, 0), (0, 1), ()), ((0, 1), (), ())))
        one, two = (0, (0, 0)), (1, ())
        self.told((one, two), [
            *cooks((0, (0, 0), (0,)), (1, (), (0,))), ("taste", one), *pours((0, (0, 0), (0,))), ("taste", two),
            *pours((1, (), (0,))),
        ], house)

    def test_the_one_cooked_last_first_also_where_some_stay_between(self):
        # 0 and 2 are kept for a table, 1 and 3 for the house.
        house = ((2,), at_house((), (), (), (), keeps=(1, 3, 1, 3)), (((0, 0), (0, 1, 2), ()), ((0, 1), (3,), ()), ((0, 1), (2, 0), ())))
        turns = ((0, (0, 0, 0)), (1, (0,)), (2, (0, 0)))
        self.told(turns, [
            *cooks((0, (0, 0), (0,)), (1, (), (0,)), (2, (0, 0), (0,))), ("taste", turns[0]),
            *pours((2, (0, 0), (0,)), (0, (0, 0), (0,))), *cooks((3, (), (0,))), ("taste", turns[1]),
            *cooks((2, (0, 1), (0,)), (0, (0, 1), (0,))), ("taste", turns[2]),
            *pours((0, (0, 1), (0,)), (2, (0, 1), (0,)), (3, (), (0,)), (1, (), (0,))),
        ], house)


class MishapsTest(unittest.TestCase):
    second = (0, (0, 0, 0, 1))

    def told(self, order, mishaps, often, right, came, house=KITCHEN):
        self.assertEqual(run_list(house, order, mishaps, often), right)
        self.assertEqual(came_of(house, order, mishaps, often), came)

    def test_a_burnt_pot(self):
        self.told((FIRST,), (("cook", 0),), 1, [("burn", A), ("miss", FIRST)], ("missed",))
        self.told((FIRST,), (("cook", 2),), 1, [*cooks(A, B), ("burn", C), ("miss", FIRST), *pours(B, A)], ("missed",))
        self.told((FIRST, self.second), (("cook", 3),), 2, [
            *cooks(A, B, C), ("burn", D), ("miss", FIRST), *cooks(D1), ("taste", self.second), *pours(D1, C, B, A),
        ], ("missed", "good"))

    def test_the_burnt_pot_is_cooked_for_the_next_turn(self):
        self.told((FIRST, self.second), (("cook", 1),), 2, [
            *cooks(A), ("burn", B), ("miss", FIRST), *cooks(B, C, D1), ("taste", self.second), *pours(D1, C, B, A),
        ], ("missed", "good"))

    def test_kept_for_one_tasting_is_poured_out_behind_a_miss(self):
        house = ((1,), at_house((), (), (), keeps=(0, 3, 0)), (((0, 0), (0, 1, 2), ()), ((0, 0), (1,), ())))
        zero, one, two = (0, (0, 0, 0), (0,)), (1, (), (0,)), (2, (0, 0, 0), (0,))
        turns = ((0, (0, 0, 0)), (1, (0,)))
        self.told(turns, (("cook", 2),), 2, [
            *cooks(zero, one), ("burn", two), ("miss", turns[0]), *pours(zero), ("taste", turns[1]), *pours(one),
        ], ("missed", "good"), house)
        self.told(turns, (("cook", 1),), 2, [
            *cooks(zero), ("burn", one), ("miss", turns[0]), *pours(zero), *cooks(one), ("taste", turns[1]), *pours(one),
        ], ("missed", "good"), house)

    def test_a_bad_tasting(self):
        self.told((FIRST, self.second), (("taste", 0),), 2, [
            *cooks(A, B, C, D), ("bad", FIRST), *pours(D), *cooks(D1), ("taste", self.second), *pours(D1, C, B, A),
        ], ("bad", "good"))
        self.told((FIRST, self.second), (("taste", 1),), 1, [
            *cooks(A, B, C, D), ("taste", FIRST), *pours(D), *cooks(D1), ("bad", self.second), *pours(D1, C, B, A),
        ], ("good", "bad"))

    def test_a_spilled_pot_is_gone_all_the_same(self):
        self.told((FIRST, self.second), (("pour", 0), ("pour", 4)), 1, [
            *cooks(A, B, C, D), ("taste", FIRST), ("spill", D), *cooks(D1), ("taste", self.second),
            *pours(D1, C, B), ("spill", A),
        ], ("good", "good"))

    def test_others_are_left_behind_what_is_poured_out(self):
        self.told((FIRST, self.second, NOTHING), (("taste", 0),), 1, [
            *cooks(A, B, C, D), ("bad", FIRST), *pours(D), *pours(C, B, A),
        ], ("bad", "left", "left"))
        self.told((FIRST, self.second, NOTHING), (("cook", 4), ("pour", 1)), 1, [
            *cooks(A, B, C, D), ("taste", FIRST), *pours(D), ("burn", D1), ("miss", self.second),
            ("spill", C), *pours(B, A),
        ], ("good", "missed", "left"))

    def test_kept_for_one_tasting_goes_first_though_cooked_ahead_of_others(self):
        house = ((1,), at_house((), (), keeps=(0, 3)), (((0, 0), (0, 1), ()), ((0, 0), (), ())))
        zero, one, turns = (0, (0, 0, 0), (0,)), (1, (), (0,)), ((0, (0, 0)), (1, ()))
        self.told(turns, (("taste", 0),), 1, [
            *cooks(zero, one), ("bad", turns[0]), *pours(zero), *pours(one),
        ], ("bad", "left"), house)

    def test_often(self):
        order = (NOTHING, BESIDE, (3, (1,)), FIRST, self.second)
        every = tuple(("taste", number) for number in range(5))
        for often, came in (
            (1, ("bad", "left", "left", "left", "left")), (2, ("bad", "bad", "left", "left", "left")),
            (3, ("bad", "bad", "bad", "left", "left")), (4, ("bad", "bad", "bad", "bad", "left")),
            (5, ("bad",) * 5), (6, ("bad",) * 5), (99, ("bad",) * 5),
        ):
            self.assertEqual(came_of(KITCHEN, order, every, often), came)

    def test_bad_and_missed_count_together(self):
        # The tastings are numbered by themselves: the missed turn has none.
        order, mishaps = (BESIDE, FIRST, NOTHING, self.second), (("cook", 2), ("taste", 1))
        self.told(order, mishaps, 2, [
            *cooks(E), ("taste", BESIDE), *cooks(A), ("burn", B), ("miss", FIRST), ("bad", NOTHING), *pours(A, E),
        ], ("good", "missed", "bad", "left"))
        self.assertEqual(came_of(KITCHEN, order, mishaps, 1), ("good", "missed", "left", "left"))
        self.assertEqual(came_of(KITCHEN, order, mishaps, 3), ("good", "missed", "bad", "good"))

    def test_several_at_once(self):
        self.told((FIRST, self.second), (("cook", 4), ("pour", 0), ("pour", 2), ("taste", 0)), 99, [
            *cooks(A, B, C, D), ("bad", FIRST), ("spill", D), ("burn", D1), ("miss", self.second), *pours(C),
            ("spill", B), *pours(A),
        ], ("bad", "missed"))

    def test_mishaps_that_the_run_does_not_come_to(self):
        order = (FIRST, self.second)
        well = run_list(KITCHEN, order, (), 1)
        far = (("cook", 5), ("cook", 10 ** 39), ("pour", 5), ("taste", 2), ("taste", 10 ** 39))
        self.assertEqual(run_list(KITCHEN, order, far, 1), well)
        self.assertEqual(came_of(KITCHEN, order, far, 1), ("good", "good"))
        # Behind the first mishap there are fewer deeds.
        once = run_list(KITCHEN, order, (("cook", 0),), 1)
        self.assertEqual(run_list(KITCHEN, order, (("cook", 0), ("cook", 1), ("pour", 0), ("taste", 0)), 1), once)

    def test_each_of_the_pourings(self):
        order = (FIRST, self.second)
        for number in range(5):
            told = run_list(KITCHEN, order, (("pour", number),), 1)
            words = [word for word, thing in told if word in ("pour", "spill")]
            self.assertEqual(words, ["spill" if at == number else "pour" for at in range(5)])


class StandingTest(unittest.TestCase):
    order = (FIRST, BESIDE, (0, (0, 0, 0, 1)), (2, (0, 0, 0)))

    def told(self, mishaps, often):
        return [standing_as(KITCHEN, self.order, mishaps, often, place) for place in range(4)]

    def test_well(self):
        last = (A, E, (1, (1,), (0, 0)), (2, (1, 0), (0, 0, 0)))
        self.assertEqual(self.told((), 1), [(A, B, C, D), (A, B, C, E), (A, B, C, E, D1), last])

    def test_a_bad_one_too_and_none_behind_it(self):
        self.assertEqual(self.told((("taste", 1),), 1), [(A, B, C, D), (A, B, C, E), None, None])

    def test_not_where_it_is_missed(self):
        self.assertEqual(self.told((("cook", 0), ("cook", 4)), 3), [
            None, (E,), None, (E, A, (1, (1,), (0, 0)), (2, (1, 0), (0, 0, 0))),
        ])

    def test_nothing_stands(self):
        self.assertEqual(standing_as(KITCHEN, (NOTHING,), (), 1, 0), ())
        self.assertIsNone(standing_as(KITCHEN, (FIRST,), (("cook", 3),), 1, 0))

    def test_kinds_told(self):
        self.assertIsInstance(standing_as(KITCHEN, self.order, (), 1, 0), tuple)
        self.assertIsInstance(came_of(KITCHEN, self.order, (), 1), tuple)
        self.assertIsInstance(run_list(KITCHEN, self.order, (), 1), list)


class RefusalsTest(unittest.TestCase):
    def refused(self, error, house, order, mishaps, often):
        self.assertRaises(error, run_list, house, order, mishaps, often)
        self.assertRaises(error, came_of, house, order, mishaps, often)
        for place in (0, -1, None, 9):
            self.assertRaises(error, standing_as, house, order, mishaps, often, place)

    def test_orders(self):
        for thing in (*NO_ORDERS, *STRANGE):
            with self.subTest(thing=repr(thing)[:300]):
                self.refused(NoOrder, KITCHEN, thing, (), 1)
                self.refused(NoOrder, KITCHEN, thing, None, 0)

    def test_mishaps(self):
        for thing in (*NO_MISHAPS, *STRANGE):
            with self.subTest(thing=repr(thing)[:300]):
                self.refused(NoMishaps, KITCHEN, (NOTHING,), thing, 1)
                self.refused(NoMishaps, KITCHEN, (), thing, True)

    def test_often(self):
        for thing in (0, 100, 101, (), (1,), *STRANGE):
            with self.subTest(thing=repr(thing)[:300]):
                self.refused(NoNumber, KITCHEN, (NOTHING,), (), thing)
        for often in (1, 2, 98, 99):
            self.assertEqual(run_list(KITCHEN, (NOTHING,), (), often), [("taste", NOTHING)])

    def test_places(self):
        order = (NOTHING, FIRST)
        for thing in (2, 3, (), (0,), *STRANGE):
            with self.subTest(thing=repr(thing)[:300]):
                self.assertRaises(NoNumber, standing_as, KITCHEN, order, (), 1, thing)
        for place in (-1, 0, 1):
            self.assertRaises(NoNumber, standing_as, KITCHEN, (), (), 1, place)
        # Also where the turn at the place is left.
        self.assertIsNone(standing_as(KITCHEN, order, (("taste", 0),), 1, 1))
        self.assertRaises(NoNumber, standing_as, KITCHEN, order, (("taste", 0),), 1, 2)

    def test_an_unsound_house_ahead_of_all(self):
        for house in UNSOUND:
            self.refused(NotSound, house, (), (), 1)
            self.refused(NotSound, house, None, None, None)
            self.refused(NotSound, house, ((0, (0, 0)),), (), 0)


class PromiseTest(unittest.TestCase):
    """[7], looked at in what is told alone."""

    def check(self, house, order, mishaps, often):
        deeds = run_list(house, order, mishaps, often)
        standing = []
        for word, thing in deeds:
            if word == "cook":
                self.assertNotIn(thing, standing)
                self.assertTrue(set(self.cooked_of(house, thing)) <= {(pot[0], pot[2]) for pot in standing})
                standing.append(thing)
            elif word in ("pour", "spill"):
                standing.remove(thing)
                for pot in standing:
                    self.assertNotIn((thing[0], thing[2]), self.cooked_of(house, pot))
            elif word in ("taste", "bad"):
                self.assertTrue(set(plain_pots(house, thing)) <= set(standing))
        self.assertEqual(standing, [])

    def cooked_of(self, house, pot):
        """The recipes and sorts of the pots that a pot is cooked of, straight or not."""
        wanted = plain_wanted(house, (pot[0],))
        sort_of = dict(zip(wanted, pot[2]))
        return [(number, tuple(sort_of[other] for other in plain_wanted(house, (number,)))) for number in wanted[:-1]]

    def test_over_made_houses_and_mishaps(self):
        chance = random.Random(7)
        words = set()
        for number in range(300):
            house = made_sound_house(chance)
            order, mishaps, often = made_order(chance, house, 12), made_mishaps(chance, 16), chance.randint(1, 5)
            self.check(house, order, mishaps, often)
            words |= {word for word, thing in run_list(house, order, mishaps, often)}
        self.assertEqual(words, {"cook", "burn", "taste", "bad", "miss", "pour", "spill"})


class AllHousesTest(unittest.TestCase):
    def check(self, house, order, mishaps, often, run):
        deeds, came, stood = run
        told = house, order, mishaps, often
        self.assertEqual(run_list(*told), deeds, told)
        self.assertEqual(came_of(*told), came, told)
        self.assertEqual(tuple(standing_as(*told, place) for place in range(len(order))), stood, told)

    def test_many_runs_by_the_plain_words(self):
        chance = random.Random(61)
        for number in range(200):
            house = made_sound_house(chance)
            order, mishaps, often = made_order(chance, house, 12), made_mishaps(chance, 6), chance.randint(1, 4)
            self.check(house, order, (), 1, plain_run(house, order, 1, by_mishaps(())))
            self.check(house, order, mishaps, often, plain_run(house, order, often, by_mishaps(mishaps)))

    def test_every_way_in_which_a_run_may_go(self):
        house = ((1,), at_house((), (0,), keeps=(3, 0), sorts=(2, 1)), (((0, 0), (1,), ()),))
        for order in (((0, (0, 0)),), ((0, (0, 0)), (0, (1, 0)))):
            for often in (1, 2):
                for mishaps, *run in every_run(house, order, often):
                    self.check(house, order, mishaps, often, run)

    def test_a_long_told_order_and_its_told_mishaps(self):
        house = ((1,), at_house((), (0,), (1,), (2,), keeps=(3, 2, 1, 0), sorts=(3,) * 4), (((0, 0), (3,), ()),))
        order = order_of(house, 0)
        mishaps = tuple(sorted((what, number) for what in ("cook", "pour", "taste") for number in range(0, 81, 3)))
        self.check(house, order, mishaps, 99, plain_run(house, order, 99, by_mishaps(mishaps)))

    def test_a_told_list_is_the_askers_own(self):
        order = (FIRST, BESIDE)
        told, right = run_list(KITCHEN, order, (), 1), run_list(KITCHEN, order, (), 1)
        told.reverse()
        told.append(("cook", A))
        self.assertEqual(run_list(KITCHEN, order, (), 1), right)
        told = run_list(KITCHEN, (), (), 1)
        told.append(0)
        self.assertEqual(run_list(KITCHEN, (), (), 1), [])

    def test_nothing_handed_in_is_changed_and_the_same_answer_again(self):
        house, order, mishaps = copy.deepcopy((KITCHEN, (FIRST, BESIDE, NOTHING), (("cook", 4), ("pour", 1))))

        def asked():
            told = [standing_as(house, order, mishaps, 2, place) for place in range(3)]
            return told + [run_list(house, order, mishaps, 2), came_of(house, order, mishaps, 2)]
        self.assertEqual(asked(), asked())
        self.assertEqual((house, order, mishaps), (KITCHEN, (FIRST, BESIDE, NOTHING), (("cook", 4), ("pour", 1))))
        for thing in ([0, [1]], {"a": [0]}, ([0],), [("cook", 0)], (["cook", 0],)):
            before = copy.deepcopy(thing)
            self.assertRaises(NoOrder, run_list, house, thing, (), 1)
            self.assertRaises(NoMishaps, came_of, house, order, thing, 1)
            self.assertRaises(NoNumber, run_list, house, order, (), thing)
            self.assertRaises(NoNumber, standing_as, house, order, (), 1, thing)
            self.assertEqual(thing, before)


if __name__ == "__main__":
    unittest.main()
