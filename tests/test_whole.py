"""[1] to [7] over the whole program: its names, its refusals, and that nothing hangs on what was asked before."""

import copy
import importlib
import inspect
import itertools
import unittest

from samples import ALL_FAULTS, KITCHEN, LACK, LACK_RING, LACK_SHORT, RING, SHORT, SHORT_RING, TASTING_LACK, UNSOUND
from tastehouse import errors
from tastehouse.desk import Desk
from tastehouse.errors import (
    NoList, NoMishaps, NoNumber, NoOrder, NoPick, NoRecipe, NoSpot, NoTasting, NoText, NotSound, NotThere, NoTurn,
    TooMany,
)
from tastehouse.ledger import Ledger
from tastehouse.service import Service

# The interface, as DOC.md lists it.
FUNCTIONS = {
    "houses": {"is_house": "thing", "is_spot": "house thing"},
    "finding": {
        "found_at": "house spot name", "all_at": "house spot name", "straight_of": "house recipe",
        "tasting_needs": "house tasting", "unfound": "house",
    },
    "faults": {
        "lacks": "house", "shorts": "house", "first_ring": "house", "are_heights": "house thing",
        "least_heights": "house", "is_sound": "house",
        "first_fault": "house",
    },
    "wants": {
        "wanted_for": "house tasting", "wanted_alone": "house recipe", "tastings_with": "house recipe",
        "cooked_of": "house recipe", "longest_row": "house",
    },
    "turns": {
        "is_turn": "house thing", "many_turns_of": "house tasting", "many_turns": "house", "turn_at": "house number",
        "number_of": "house turn",
        "turn_behind": "house turn", "order_of": "house tasting",
    },
    "pots": {"pots_of": "house turn", "shared": "house one other", "unlike_pots": "house order"},
    "runs": {
        "run_list": "house order mishaps often", "came_of": "house order mishaps often",
        "standing_as": "house order mishaps often place",
    },
    "lists": {"is_run_list": "house order often thing", "mishaps_of": "house order often thing"},
    "picks": {
        "is_pick": "house thing", "picked": "house pick", "pick_text": "house pick", "pick_read": "house text",
        "pick_alike": "house one other",
        "parting": "one other",
    },
    "fewest": {
        "cooked": "house order", "fewest_order": "house order", "fewest_pots": "house order",
        "is_table": "house order thing", "best_table": "house order",
    },
    "texts": {
        "house_text": "house", "turn_text": "house turn", "list_text": "house order mishaps often",
        "house_read": "text", "turn_read": "house text",
    },
}
CLASSES = {
    ("service", "Service"): {
        "__init__": "house order often", "due": "", "went": "well", "undo": "", "stop": "", "list_so_far": "",
        "stands": "", "came_so_far": "",
    },
    ("ledger", "Ledger"): {
        "__init__": "house", "note": "turn word", "change": "recipe keep sorts needs", "add_recipe": "recipe",
        "add_tasting": "tasting", "undo": "",
        "house": "", "known": "turn", "to_have": "", "would_lose": "recipe keep sorts needs",
    },
    ("desk", "Desk"): {"__init__": "", "say": "row"},
}

ORDER = ((0, (0, 0, 0, 0)), (3, (0,)))
SIX = tuple((0, sorts) for sorts in itertools.islice(itertools.product((0, 1), repeat=4), 6))
DEEDS = [("taste", (4, ()))]

# For each argument what is let, of the kitchen, and what is not, with the class by which that is refused.
SPOT = ((0, 1), ((0, 2), NoSpot), ([], NoSpot), (None, NoSpot))
NAME = (3, (8, NoNumber), (True, NoNumber), ("3", NoNumber))
RECIPE = (1, (5, NoRecipe), (-1, NoRecipe), (True, NoRecipe), ([1], NoRecipe))
TASTING = (1, (5, NoTasting), (False, NoTasting), ((1,), NoTasting))
COUNT = (1, (-1, NoNumber), (True, NoNumber), (None, NoNumber))
TURN = ((3, (1,)), ((3, (3,)), NoTurn), ([3, (1,)], NoTurn), ((3, [1]), NoTurn), ((3, (True,)), NoTurn), (None, NoTurn))
ORDERS = (ORDER, (ORDER + ORDER, NoOrder), (list(ORDER), NoOrder), (((3, (3,)),), NoOrder), (None, NoOrder))
FEW = (*ORDERS, (SIX, TooMany))
MISHAPS = ((("cook", 0), ("pour", 1)), ((("pour", 1), ("cook", 0)), NoMishaps), ([], NoMishaps),
           ((("burn", 0),), NoMishaps))
OFTEN = (2, (0, NoNumber), (100, NoNumber), (True, NoNumber), ({}, NoNumber))
PLACE = (1, (2, NoNumber), (-1, NoNumber), (False, NoNumber))
PICK = (("word", "hot"), (("at", (0, 2)), NoPick), (["word", "hot"], NoPick), ("hot", NoPick), (("wants", 8), NoPick))
THING = (None,)

# Of sound houses alone.
OF_SOUND = {
    ("wants", "wanted_for"): (TASTING,), ("wants", "wanted_alone"): (RECIPE,), ("wants", "tastings_with"): (RECIPE,),
    ("wants", "cooked_of"): (RECIPE,),
    ("wants", "longest_row"): (), ("turns", "is_turn"): (THING,), ("turns", "many_turns_of"): (TASTING,),
    ("turns", "many_turns"): (),
    ("turns", "turn_at"): ((*COUNT, (10 ** 39, NotThere)),), ("turns", "number_of"): (TURN,),
    ("turns", "turn_behind"): (TURN,), ("turns", "order_of"): (TASTING,),
    ("pots", "pots_of"): (TURN,), ("pots", "shared"): (TURN, TURN), ("pots", "unlike_pots"): (ORDERS,),
    ("runs", "run_list"): (ORDERS, MISHAPS, OFTEN), ("runs", "came_of"): (ORDERS, MISHAPS, OFTEN),
    ("runs", "standing_as"): (ORDERS, MISHAPS, OFTEN, PLACE),
    ("lists", "is_run_list"): (ORDERS, OFTEN, THING),
    ("lists", "mishaps_of"): ((((4, ()),), *ORDERS[1:]), OFTEN, (DEEDS, (None, NoList), (DEEDS * 2, NoList))),
    ("picks", "is_pick"): (THING,), ("picks", "picked"): (PICK,), ("picks", "pick_text"): (PICK,),
    ("picks", "pick_alike"): (PICK, PICK),
    ("picks", "pick_read"): (("hot", ("(", NoText), (None, NoText), ("@0.2", NoText)),),
    ("fewest", "cooked"): (ORDERS,), ("fewest", "fewest_order"): (FEW,), ("fewest", "fewest_pots"): (FEW,),
    ("fewest", "best_table"): (FEW,),
    ("fewest", "is_table"): (FEW, THING), ("texts", "turn_text"): (TURN,),
    ("texts", "turn_read"): (("3: 1", ("3:1", NoText), ([], NoText)),),
    ("texts", "list_text"): (ORDERS, MISHAPS, OFTEN), ("service", "Service"): (ORDERS, OFTEN), ("ledger", "Ledger"): (),
}
# Of every house.
OF_ALL = {
    ("finding", "found_at"): (SPOT, NAME), ("finding", "all_at"): (SPOT, NAME), ("finding", "straight_of"): (RECIPE,),
    ("finding", "tasting_needs"): (TASTING,),
    ("finding", "unfound"): (), ("houses", "is_spot"): (THING,), ("faults", "lacks"): (), ("faults", "shorts"): (),
    ("faults", "first_ring"): (),
    ("faults", "are_heights"): (THING,), ("faults", "least_heights"): (), ("faults", "is_sound"): (),
    ("faults", "first_fault"): (), ("texts", "house_text"): (),
}


def named(key):
    return getattr(importlib.import_module(f"tastehouse.{key[0]}"), key[1])


def choices(arguments):
    """Each choice of one let or refused thing for each argument, with the class that is to be the first one, or None."""
    rows = [[(argument[0], None), *argument[1:]] for argument in arguments]
    for row in itertools.product(*rows):
        refusals = [error for thing, error in row if error]
        yield [thing for thing, error in row], (refusals + [None])[0]


class InterfaceTest(unittest.TestCase):
    def test_functions(self):
        for module, functions in FUNCTIONS.items():
            for name, arguments in functions.items():
                function = named((module, name))
                self.assertEqual(function.__module__, f"tastehouse.{module}")
                self.assertEqual(list(inspect.signature(function).parameters), arguments.split(), name)

    def test_classes(self):
        for key, methods in CLASSES.items():
            made = named(key)
            for name, arguments in methods.items():
                self.assertIn(name, vars(made))
                self.assertEqual(list(inspect.signature(vars(made)[name]).parameters), ["self", *arguments.split()])

    def test_all_that_is_of_a_house_is_looked_at_below(self):
        told = {(module, name) for module, functions in FUNCTIONS.items() for name,
                arguments in functions.items() if arguments.split()[0] == "house"}
        self.assertEqual(told | {("service", "Service"), ("ledger", "Ledger")}, set(OF_SOUND) | set(OF_ALL))


class RefusalsTest(unittest.TestCase):
    def test_the_left_one_first(self):
        for key, arguments in (*OF_SOUND.items(), *OF_ALL.items()):
            for things, error in choices(arguments):
                with self.subTest(key=key, things=things):
                    if error is None:
                        named(key)(KITCHEN, *things)
                    else:
                        self.assertRaises(error, named(key), KITCHEN, *things)

    def test_not_sound_ahead_of_all(self):
        for house in (LACK, TASTING_LACK, SHORT, RING, LACK_SHORT, LACK_RING, SHORT_RING, ALL_FAULTS):
            for key, arguments in OF_SOUND.items():
                for things, error in choices([argument[:3] for argument in arguments]):
                    self.assertRaises(NotSound, named(key), house, *things)

    def test_of_every_house(self):
        for house in UNSOUND:
            for key, arguments in OF_ALL.items():
                if not arguments:
                    named(key)(house)
        for house in (LACK, SHORT, RING):
            self.assertEqual([named(("finding", "straight_of"))(house, number) for number in range(2)][1][0], 0)

    def test_things_of_the_program_that_are_no_other_thing(self):
        # A turn is no order, an order no turn, a pick no text, and so on.
        for thing in ((3, (1,)), (("cook", 0),), ("word", "hot"), "hot", DEEDS, KITCHEN):
            self.assertRaises(NoOrder, named(("runs", "run_list")), KITCHEN, thing, (), 1)
        for thing in (ORDER, (("cook", 0),), ("word", "hot"), "3: 1", DEEDS, KITCHEN, 3):
            self.assertRaises(NoTurn, named(("pots", "pots_of")), KITCHEN, thing)
        for thing in (ORDER, (3, (1,)), DEEDS, KITCHEN, ("cook", 0)):
            self.assertRaises(NoMishaps, named(("runs", "run_list")), KITCHEN, (), thing, 1)


class SameAgainTest(unittest.TestCase):
    """[4]: whatever was asked ahead, whatever is done to what was told, the same has the same answer."""

    def asked(self, house):
        told = []
        for key, arguments in (*OF_SOUND.items(), *OF_ALL.items()):
            if key[1] not in ("Service", "Ledger"):
                told.append(named(key)(house, *[argument[0] for argument in arguments]))
        service, ledger, desk = Service(house, ORDER, 1), Ledger(house), Desk()
        service.went(True)
        ledger.note(ORDER[0], "good")
        ledger.note(ORDER[1], "bad")
        told += [service.list_so_far(), service.stands(), service.came_so_far(), ledger.would_lose(0, 3, 1, ()),
                 ledger.would_lose(4, 3, 1, ())]
        return told + [desk.say("house"), named(("picks", "parting"))(("word", "a"), ("word", "b")),
                       named(("texts", "house_read"))("tables 1")]

    def test_the_same_again(self):
        first = self.asked(KITCHEN)
        kept = copy.deepcopy(first)
        # A house of the same parts, made anew, is the same house.
        self.assertEqual(self.asked(copy.deepcopy(KITCHEN)), kept)
        for thing in first:
            self.spoil(thing)
        self.assertEqual(self.asked(KITCHEN), kept)

    def spoil(self, thing):
        if isinstance(thing, list):
            thing.reverse()
            thing.append("spoiled")
        if isinstance(thing, dict):
            thing.clear()

    def test_what_is_told_is_of_the_kinds_of_the_document(self):
        for thing in self.asked(KITCHEN):
            self.kinds(thing)

    def kinds(self, thing):
        self.assertIn(type(thing), (int, str, bool, tuple, list, type(None)))
        for part in thing if isinstance(thing, (tuple, list)) else ():
            self.assertNotIsInstance(part, (list, bool))
            self.kinds(part)

    def test_classes_of_refusals_are_values_errors(self):
        for error in (NoOrder, NotSound, TooMany):
            self.assertTrue(issubclass(error, errors.TasteError) and issubclass(error, ValueError))


if __name__ == "__main__":
    unittest.main()
