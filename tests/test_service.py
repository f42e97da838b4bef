"""[3], [4], [5], [7], [61], [62], [63], [64], [71], [72]: services, told deed by deed, undone and stopped."""

import copy
import random
import unittest

from plain import PlainService, by_mishaps, every_run, made_mishaps, made_order, made_sound_house
from samples import KITCHEN, NO_ORDERS, SMALLEST, STRANGE, UNSOUND, at_house
from tastehouse.errors import NoDeed, NoNumber, NoOrder, NoTruth, NotDue, NotSound
from tastehouse.lists import is_run_list, mishaps_of
from tastehouse.runs import came_of, run_list
from tastehouse.service import Service
from tastehouse.turns import order_of

# The turns of the kitchen that the services below are made of, and their pots.
FIRST, SECOND, BESIDE, NOTHING = (0, (0, 0, 0, 0)), (0, (0, 0, 0, 1)), (3, (0,)), (4, ())
A, B, C, D = (0, (), (0,)), (1, (0,), (0, 0)), (2, (0, 0), (0, 0, 0)), (3, (0, 0, 0), (0, 0, 0, 0))
D1, E = (3, (0, 0, 0), (0, 0, 0, 1)), (4, (), (0,))

# Two recipes, the second one kept for one tasting and cooked of the first one, and two turns that share nothing.
SMALL = ((1,), at_house((), (0,), keeps=(3, 0), sorts=(2, 1)), (((0, 0), (1,), ()),))
ONE, TWO = (0, (0, 0)), (0, (1, 0))
X, Y, X1, Y1 = (0, (), (0,)), (1, (0, 0, 0), (0, 0)), (0, (), (1,)), (1, (0, 0, 0), (1, 0))
SMALL_ORDER = (ONE, TWO)
# The deeds of the run of both where nothing goes wrong.
SMALL_DEEDS = [("cook", X), ("cook", Y), ("taste", ONE), ("pour", Y), ("pour", X),
               ("cook", X1), ("cook", Y1), ("taste", TWO), ("pour", Y1), ("pour", X1)]


def seen(service):
    """All that a service tells."""
    return service.due(), service.list_so_far(), service.stands(), service.came_so_far()


def told_by(house, order, often, told):
    """A service that was told all this, True, False or "stop"."""
    service = Service(house, order, often)
    for thing in told:
        tell(service, thing)
    return service


def tell(service, thing):
    return service.stop() if thing == "stop" else service.went(thing)


def plainly(house, order, often, told):
    """What such a service must tell, by the plain words."""
    plain = PlainService(house, order, often)
    for thing in told:
        plain.tell(thing)
    return shown(plain)


def shown(plain):
    return plain.due, plain.deeds, tuple(plain.standing), tuple(plain.came)


def to_its_end(service):
    while service.due() is not None:
        service.went(True)
    return service


class Checks(unittest.TestCase):
    def over(self, service):
        """Nothing is due, and no deed changes that."""
        before = seen(service)
        self.assertIsNone(service.due())
        self.assertRaises(NotDue, service.went, True)
        self.assertRaises(NotDue, service.went, False)
        self.assertRaises(NotDue, service.stop)
        self.assertEqual(seen(service), before)


class ByHandTest(Checks):
    def test_each_deed_of_a_small_run(self):
        service = Service(SMALL, SMALL_ORDER, 1)
        standing = [(), (X,), (X, Y), (X, Y), (X,), (), (X1,), (X1, Y1), (X1, Y1), (X1,), ()]
        came = [("ahead", "ahead")] * 3 + [("good", "ahead")] * 5 + [("good", "good")] * 3
        for at, deed in enumerate(SMALL_DEEDS):
            self.assertEqual(seen(service), (deed, SMALL_DEEDS[:at], standing[at], came[at]))
            self.assertIsNone(service.went(True))
        self.assertEqual(seen(service), (None, SMALL_DEEDS, (), ("good", "good")))
        self.over(service)

    def test_a_burnt_pot(self):
        service = told_by(SMALL, SMALL_ORDER, 2, [True, False])
        self.assertEqual(seen(service), (
            ("pour", X), [("cook", X), ("burn", Y), ("miss", ONE)], (X,), ("missed", "ahead"),
        ))
        service.went(False)
        self.assertEqual(seen(service), (
            ("cook", X1), [("cook", X), ("burn", Y), ("miss", ONE), ("spill", X)], (), ("missed", "ahead"),
        ))

    def test_a_bad_tasting_leaves_the_others_at_once(self):
        service = told_by(SMALL, SMALL_ORDER, 1, [True, True, False])
        deeds = [("cook", X), ("cook", Y), ("bad", ONE)]
        self.assertEqual(seen(service), (("pour", Y), deeds, (X, Y), ("bad", "left")))
        service.went(True)
        self.assertEqual(seen(service), (("pour", X), [*deeds, ("pour", Y)], (X,), ("bad", "left")))
        service.went(True)
        self.over(service)

    def test_the_first_pot_burnt_and_often_reached(self):
        service = told_by(SMALL, SMALL_ORDER, 1, [False])
        self.assertEqual(seen(service), (None, [("burn", X), ("miss", ONE)], (), ("missed", "left")))
        self.over(service)
        service.undo()
        self.assertEqual(seen(service), seen(Service(SMALL, SMALL_ORDER, 1)))

    def test_without_turns(self):
        for house in (KITCHEN, SMALLEST):
            service = Service(house, (), 1)
            self.assertEqual(seen(service), (None, [], (), ()))
            self.over(service)
            self.assertRaises(NoDeed, service.undo)

    def test_a_turn_that_wants_nothing(self):
        service = Service(KITCHEN, (NOTHING,), 1)
        self.assertEqual(seen(service), (("taste", NOTHING), [], (), ("ahead",)))
        service.went(True)
        self.assertEqual(seen(service), (None, [("taste", NOTHING)], (), ("good",)))
        self.over(service)

    def test_kinds_told(self):
        service = Service(KITCHEN, (FIRST,), 1)
        for told in (service.due(), service.stands(), service.came_so_far()):
            self.assertIsInstance(told, tuple)
        self.assertIsInstance(service.list_so_far(), list)
        self.assertIsNone(service.went(True))
        self.assertIsNone(service.stop())
        self.assertIsNone(service.undo())


class UndoTest(Checks):
    def test_nothing_told_yet(self):
        for often in (1, 99):
            service = Service(SMALL, SMALL_ORDER, often)
            before = seen(service)
            self.assertRaises(NoDeed, service.undo)
            self.assertEqual(seen(service), before)

    def test_told_wrong_undone_and_told_otherwise(self):
        service = told_by(SMALL, SMALL_ORDER, 1, [True, False])
        self.assertEqual(service.came_so_far(), ("missed", "left"))
        self.assertIsNone(service.undo())
        self.assertEqual(seen(service), (("cook", Y), [("cook", X)], (X,), ("ahead", "ahead")))
        self.assertEqual(to_its_end(service).list_so_far(), SMALL_DEEDS)

    def test_several_on(self):
        service = told_by(SMALL, SMALL_ORDER, 1, [True, True, False, True, True])
        self.assertIsNone(service.due())
        for number in range(3):
            service.undo()
        self.assertEqual(seen(service), (("taste", ONE), SMALL_DEEDS[:2], (X, Y), ("ahead", "ahead")))
        self.assertEqual(to_its_end(service).list_so_far(), SMALL_DEEDS)

    def test_to_the_very_beginning(self):
        service = to_its_end(Service(SMALL, SMALL_ORDER, 1))
        for number in reversed(range(10)):
            service.undo()
            self.assertEqual(service.list_so_far(), SMALL_DEEDS[:number])
            self.assertEqual(service.due(), SMALL_DEEDS[number])
        self.assertEqual(seen(service), seen(Service(SMALL, SMALL_ORDER, 1)))
        self.assertRaises(NoDeed, service.undo)
        self.assertEqual(to_its_end(service).list_so_far(), SMALL_DEEDS)

    def test_undoing_is_not_undone(self):
        service = told_by(SMALL, SMALL_ORDER, 1, [True, True])
        service.undo()
        service.undo()
        self.assertRaises(NoDeed, service.undo)
        service.went(True)
        service.undo()
        self.assertRaises(NoDeed, service.undo)

    def test_a_refused_deed_is_not_undone(self):
        service = told_by(SMALL, SMALL_ORDER, 1, [True, "stop"])
        self.assertRaises(NoTruth, service.went, 1)
        self.assertRaises(NotDue, service.stop)
        service.undo()
        self.assertEqual(service.came_so_far(), ("ahead", "ahead"))
        service.undo()
        self.assertEqual(service.list_so_far(), [])
        self.assertRaises(NoDeed, service.undo)


class StopTest(Checks):
    # What comes of a stop ahead of each deed of the small run: how many deeds are done, and the turns.
    ends = [5, 5, 5, 5, 10, 10, 10, 10, 10, 10]

    def test_ahead_of_each_deed(self):
        for at, end in enumerate(self.ends):
            service = told_by(SMALL, SMALL_ORDER, 1, [True] * at)
            before = seen(service)
            service.stop()
            # It is come to at once as the pot that is kept for one tasting is poured out behind the first turn.
            came = ("good" if at > 2 else "ahead", "left") if at < 4 else ("good", "good" if at > 7 else "ahead")
            self.assertEqual(seen(service), (*before[:3], came))
            self.assertRaises(NotDue, service.stop)
            self.assertEqual(seen(service), (*before[:3], came))
            self.assertEqual(to_its_end(service).list_so_far(), SMALL_DEEDS[:end])
            self.assertEqual(service.came_so_far(), ("good", "left") if end == 5 else ("good", "good"))
            self.over(service)

    def test_undone(self):
        for at in range(10):
            service = told_by(SMALL, SMALL_ORDER, 1, [True] * at)
            before = seen(service)
            service.stop()
            service.undo()
            self.assertEqual(seen(service), before)
            service.stop()
            service.undo()
            self.assertEqual(to_its_end(service).list_so_far(), SMALL_DEEDS)
            self.assertEqual(service.came_so_far(), ("good", "good"))

    def test_undone_with_deeds_behind_it(self):
        service = told_by(SMALL, SMALL_ORDER, 1, [True, "stop", True, True])
        for number in range(2):
            service.undo()
            self.assertRaises(NotDue, service.stop)
        self.assertEqual(service.came_so_far(), ("ahead", "left"))
        service.undo()
        self.assertEqual(seen(service), seen(told_by(SMALL, SMALL_ORDER, 1, [True])))
        service.stop()
        self.assertEqual(service.came_so_far(), ("ahead", "left"))

    def test_the_turn_goes_on_and_goes_wrong(self):
        service = told_by(SMALL, SMALL_ORDER, 9, ["stop", True, False])
        self.assertEqual(seen(service), (
            ("pour", X), [("cook", X), ("burn", Y), ("miss", ONE)], (X,), ("missed", "left"),
        ))
        service.went(True)
        self.over(service)

    def test_behind_what_went_wrong_so_often(self):
        service = told_by(SMALL, SMALL_ORDER, 1, [True, True, False])
        before = seen(service)
        service.stop()
        self.assertEqual(seen(service), before)
        self.assertRaises(NotDue, service.stop)
        service.undo()
        self.assertEqual(seen(service), before)
        service.stop()
        self.assertEqual(to_its_end(service).list_so_far(), [
            ("cook", X), ("cook", Y), ("bad", ONE), ("pour", Y), ("pour", X),
        ])
        service.undo()
        self.assertRaises(NotDue, service.stop)
        for number in range(2):
            service.undo()
        self.assertEqual(seen(service), before)
        service.undo()
        self.assertEqual(service.came_so_far(), ("ahead", "ahead"))

    def test_at_the_end(self):
        service = to_its_end(Service(SMALL, SMALL_ORDER, 1))
        self.over(service)
        service.undo()
        service.stop()
        self.assertEqual(service.came_so_far(), ("good", "good"))
        service.went(False)
        self.over(service)
        self.assertEqual(service.list_so_far(), [*SMALL_DEEDS[:-1], ("spill", X1)])

    def test_what_goes_for_the_next_turn_belongs_to_it(self):
        # Behind the first turn nothing is kept for one tasting: the next one is come to as that one is tasted.
        service = told_by(KITCHEN, (BESIDE, (3, (1,)), NOTHING), 1, [True])
        service.went(True)
        self.assertEqual(service.due(), ("pour", E))
        service.stop()
        self.assertEqual(service.came_so_far(), ("good", "ahead", "left"))
        other = (4, (), (1,))
        self.assertEqual(to_its_end(service).list_so_far(), [
            ("cook", E), ("taste", BESIDE), ("pour", E), ("cook", other), ("taste", (3, (1,))), ("pour", other),
        ])
        service = told_by(KITCHEN, (FIRST, SECOND), 1, [True] * 5)
        self.assertEqual(service.due(), ("pour", D))
        service.stop()
        self.assertEqual(service.came_so_far(), ("good", "left"))
        service.undo()
        service.went(True)
        self.assertEqual(service.due(), ("cook", D1))
        service.stop()
        self.assertEqual(service.came_so_far(), ("good", "ahead"))


class RunTest(Checks):
    """A service that is told of each deed as mishaps have it does just the run of them."""

    def check(self, house, order, mishaps, often):
        service, plain, goes_well = Service(house, order, often), PlainService(house, order, often), by_mishaps(mishaps)
        while service.due() is not None:
            self.assertEqual(seen(service), shown(plain))
            well = goes_well(service.due()[0])
            what, thing = service.due()
            done = service.list_so_far()
            service.went(well)
            plain.tell(well)
            word = what if well else {"cook": "burn", "taste": "bad", "pour": "spill"}[what]
            self.assertEqual(service.list_so_far()[:len(done) + 1], [*done, (word, thing)])
        right = run_list(house, order, mishaps, often)
        self.assertEqual(service.list_so_far(), right)
        self.assertEqual(service.came_so_far(), came_of(house, order, mishaps, often))
        self.assertEqual(service.stands(), ())
        self.assertIs(is_run_list(house, order, often, service.list_so_far()), True)
        self.assertTrue(set(mishaps_of(house, order, often, service.list_so_far())) <= set(mishaps))
        self.over(service)

    def test_made_houses(self):
        chance = random.Random(71)
        for number in range(80):
            house = made_sound_house(chance)
            order = made_order(chance, house, 12)
            self.check(house, order, made_mishaps(chance, 6), chance.randint(1, 4))

    def test_the_kitchen(self):
        order = (FIRST, BESIDE, SECOND, (2, (0, 0, 0)), NOTHING)
        for mishaps in ((), (("cook", 0),), (("cook", 4), ("pour", 1)), (("taste", 0), ("taste", 1), ("taste", 2))):
            for often in (1, 2, 3, 99):
                self.check(KITCHEN, order, mishaps, often)

    def test_the_list_it_leaves_shows_just_what_went_wrong(self):
        for often in (1, 2):
            for mishaps, deeds, came, stood in every_run(SMALL, SMALL_ORDER, often):
                service, goes_well = Service(SMALL, SMALL_ORDER, often), by_mishaps(mishaps)
                while service.due() is not None:
                    service.went(goes_well(service.due()[0]))
                left = service.list_so_far()
                self.assertEqual(left, deeds)
                self.assertIs(is_run_list(SMALL, SMALL_ORDER, often, left), True)
                self.assertEqual(mishaps_of(SMALL, SMALL_ORDER, often, left), mishaps)

    def test_a_told_order_of_more_turns(self):
        house = ((1,), at_house((), (0,), (1,), (2,), keeps=(3, 2, 1, 0), sorts=(3,) * 4), (((0, 0), (3,), ()),))
        order = order_of(house, 0)
        service = to_its_end(Service(house, order, 1))
        right = run_list(house, order, (), 1)
        self.assertEqual(service.list_so_far(), right)
        for number in range(len(right)):
            service.undo()
        self.assertEqual(seen(service), seen(Service(house, order, 1)))


class AnyDeedsTest(Checks):
    """Told, stopped and undone by chance, against the plain words told anew of what stands."""

    def test_made_houses(self):
        chance = random.Random(72)
        met = set()
        for number in range(60):
            house = made_sound_house(chance)
            order, often = made_order(chance, house, 5), chance.randint(1, 3)
            service, told = Service(house, order, often), []
            for step in range(40):
                met.add(self.one_deed(chance, service, told))
                self.assertEqual(seen(service), plainly(house, order, often, told), (house, order, often, told))
        self.assertEqual(met, {"undone", "no deed", "told", "over", "stopped", "no stop"})

    def one_deed(self, chance, service, told):
        way = chance.random()
        if way < 0.2:
            if not told:
                self.assertRaises(NoDeed, service.undo)
                return "no deed"
            service.undo()
            told.pop()
            return "undone"
        thing = "stop" if way < 0.25 else way < 0.85
        if service.due() is None or thing == "stop" and "stop" in told:
            self.assertRaises(NotDue, tell, service, thing)
            return "no stop" if thing == "stop" else "over"
        tell(service, thing)
        told.append(thing)
        return "stopped" if thing == "stop" else "told"

    def test_a_stop_ahead_of_each_deed(self):
        chance = random.Random(73)
        for number in range(30):
            house = made_sound_house(chance)
            order = made_order(chance, house, 4)
            for at in range(len(run_list(house, order, (), 1))):
                told = [True] * at + ["stop"]
                service = told_by(house, order, 1, told)
                self.assertEqual(seen(service), plainly(house, order, 1, told))
                come_to = service.came_so_far().index("left") if "left" in service.came_so_far() else len(order)
                self.assertEqual(to_its_end(service).list_so_far(), run_list(house, order[:come_to], (), 1))


class RefusalsTest(Checks):
    def test_truths(self):
        service = told_by(SMALL, SMALL_ORDER, 1, [True, True])
        over = to_its_end(Service(SMALL, SMALL_ORDER, 1))
        for one in (service, over, Service(KITCHEN, (), 1)):
            before = seen(one)
            for thing in (0, 1, "True", "", "well", None, (), (True,), [True], [], {True: True}, {},
                          *[thing for thing in STRANGE if thing is not True and thing is not False]):
                with self.subTest(thing=repr(thing)[:300]):
                    self.assertRaises(NoTruth, one.went, thing)
                    self.assertEqual(seen(one), before)
        service.undo()
        self.assertEqual(service.list_so_far(), SMALL_DEEDS[:1])

    def test_orders(self):
        for order in (*NO_ORDERS, *STRANGE):
            with self.subTest(thing=repr(order)[:300]):
                self.assertRaises(NoOrder, Service, KITCHEN, order, 1)
                self.assertRaises(NoOrder, Service, KITCHEN, order, 0)
                self.assertRaises(NoOrder, Service, KITCHEN, order, None)

    def test_often(self):
        for often in (0, 100, 101, (), (1,), *STRANGE):
            with self.subTest(thing=repr(often)[:300]):
                self.assertRaises(NoNumber, Service, KITCHEN, (), often)
                self.assertRaises(NoNumber, Service, KITCHEN, (NOTHING,), often)
        for often in (1, 99):
            self.assertEqual(Service(KITCHEN, (NOTHING,), often).due(), ("taste", NOTHING))

    def test_an_unsound_house_ahead_of_all(self):
        for house in UNSOUND:
            for order, often in (((), 1), (None, None), ((), 0), ([], 1)):
                self.assertRaises(NotSound, Service, house, order, often)


class ApartTest(Checks):
    def test_told_lists_are_the_askers_own(self):
        service = told_by(SMALL, SMALL_ORDER, 1, [True, True])
        told = service.list_so_far()
        told.reverse()
        told.append(0)
        self.assertEqual(service.list_so_far(), SMALL_DEEDS[:2])
        service.undo()
        service.list_so_far().clear()
        self.assertEqual(service.list_so_far(), SMALL_DEEDS[:1])
        kept = service.list_so_far()
        self.assertEqual(to_its_end(service).list_so_far(), SMALL_DEEDS)
        self.assertEqual(kept, SMALL_DEEDS[:1])

    def test_two_of_one_house_told_by_turns(self):
        chance = random.Random(74)
        for number in range(20):
            house = made_sound_house(chance)
            order = made_order(chance, house, 5)
            services, told = [Service(house, order, 2), Service(house, order, 2)], [[], []]
            for step in range(30):
                at = chance.randrange(2)
                other = seen(services[1 - at])
                if services[at].due() is not None and chance.random() < 0.8:
                    told[at].append(chance.random() < 0.7)
                    services[at].went(told[at][-1])
                elif told[at]:
                    services[at].undo()
                    told[at].pop()
                self.assertEqual(seen(services[1 - at]), other)
                self.assertEqual(seen(services[at]), plainly(house, order, 2, told[at]))

    def test_nothing_handed_in_is_changed_and_the_same_answer_again(self):
        house, order = copy.deepcopy((KITCHEN, (FIRST, BESIDE, SECOND)))
        service = Service(house, order, 2)
        while service.due() is not None:
            self.assertEqual(seen(service), seen(service))
            service.went(service.due() != ("cook", D1))
        self.assertEqual((house, order), (KITCHEN, (FIRST, BESIDE, SECOND)))
        for thing in ([0, [1]], {"a": [0]}, ([0],)):
            before = copy.deepcopy(thing)
            self.assertRaises(NoOrder, Service, house, thing, 1)
            self.assertRaises(NoNumber, Service, house, order, thing)
            self.assertRaises(NoTruth, service.went, thing)
            self.assertEqual(thing, before)


if __name__ == "__main__":
    unittest.main()
