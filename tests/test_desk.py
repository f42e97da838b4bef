"""[3], [4], [5], [112]: a desk, told rows."""

import copy
import itertools
import random
import re
import unittest

from plain import made_order, made_worded_house, plain_fault, plain_needs, plain_turns, plain_wanted, spots_of
from samples import HOUSE, KITCHEN, SOUND, STRANGE
from tastehouse.desk import Desk
from tastehouse.errors import (
    NoDeed, NoHouse, NoOrder, NoRecipe, NoRow, NoTasting, NoText, NotSound, NoTurn, TasteError, TooMany,
)
from tastehouse.fewest import cooked, fewest_pots
from tastehouse.houses import is_house
from tastehouse.picks import pick_read, picked
from tastehouse.texts import house_read, house_text, list_text

BIG, TOO_BIG = "9" * 40, "1" + "0" * 40

LOOKS = ("house", "fault", "turns", "run", "fewest")


def rows_of(house, order=()):
    """The rows by which a desk is told a house and an order."""
    first, *others = house[0]
    if first != 1:
        raise ValueError("a desk begins with one table")
    rows = [f"evening {many}" for many in others] + house_text(house).split("\n")[1:]
    return rows + [" ".join([f"turn {tasting} :", *map(str, sorts)]) for tasting, sorts in order]


def desk_of(*rows):
    desk = Desk()
    for row in rows:
        if desk.say(row) != "ok":
            raise ValueError(row)
    return desk


def seen(desk):
    """All that a desk tells without a number, refusals by their class."""
    return [answer_or_error(desk, row) for row in LOOKS]


def answer_or_error(desk, row):
    try:
        return desk.say(row)
    except TasteError as refusal:
        return type(refusal)


class Checks(unittest.TestCase):
    def refused(self, desk, error, *rows):
        for row in rows:
            before = seen(desk)
            with self.subTest(row=repr(row)[:200]):
                self.assertRaises(error, desk.say, row)
                self.assertEqual(seen(desk), before)

    def told(self, desk, **answers):
        for row, answer in answers.items():
            self.assertEqual(desk.say(row), answer)


# One recipe for the house of two sorts, one for an evening cooked of it; tastings of both, of the first one, of none.
ROWS = ("evening 2", "pot 0 @ house 2 :", "pot 1 @ evening 1 : 0", "taste @0.0 : 1 : hot sweet",
        "taste @1.1 : 0 : hot", "taste @1.0 : :")


class LooksTest(Checks):
    def test_at_first(self):
        desk = Desk()
        self.told(desk, house="tables 1", fault="none", turns="0", run="none", fewest="0")
        self.assertEqual(desk.say("pick hot"), "none")
        self.assertEqual(desk.say("pick @"), "none")
        self.refused(desk, NoTasting, "wants 0")
        self.refused(desk, NoDeed, "back")

    def test_of_a_house(self):
        desk = desk_of(*ROWS)
        self.told(desk, house="tables 1 2\n" + "\n".join(ROWS[1:]), fault="none", turns="5", run="none", fewest="0")
        for row, answer in (("wants 0", "0 1"), ("wants 1", "0"), ("wants 2", "none"), ("pick hot", "0 1"),
                            ("pick @1", "1 2"), ("pick sweet", "0"),
                            ("pick cold", "none"), ("pick !hot", "2"), ("pick hot & !(sweet | @0.0)", "1"),
                            ("pick #1|#0", "0 1"), ("pick ( hot )", "0 1"),
                            ("pick hot & sweet", "0"), ("pick hot| sweet", "0 1"), ("pick @", "0 1 2"),
                            ("pick pick", "none")):
            self.assertEqual(desk.say(row), answer, row)

    def test_runs(self):
        desk = desk_of(*ROWS, "turn 0 : 0 0", "turn 1 : 0")
        run = ["cook 0 @ 0", "cook 1 @0 0 0", "taste 0: 0 0", "pour 1 @0 0 0", "taste 1: 0", "pour 0 @ 0"]
        self.told(desk, run="\n".join(run), fewest="2")
        for row, right in (
            ("run cook 0", ["burn 0 @ 0", "miss 0: 0 0"]), ("run cook 2", run),
            ("run cook 1", [run[0], "burn 1 @0 0 0", "miss 0: 0 0", "pour 0 @ 0"]),
            ("run taste 0", [*run[:2], "bad 0: 0 0", "pour 1 @0 0 0", "pour 0 @ 0"]),
            ("run taste 1", [*run[:4], "bad 1: 0", run[5]]),
            ("run taste 2", run), ("run pour 0", [*run[:3], "spill 1 @0 0 0", *run[4:]]),
            ("run pour 1", [*run[:5], "spill 0 @ 0"]),
            ("run pour 2", run), (f"run pour {BIG}", run), (f"run cook {BIG}", run), (f"run taste {BIG}", run),
        ):
            self.assertEqual(desk.say(row), "\n".join(right), row)

    def test_runs_without_turns(self):
        desk = desk_of(*ROWS)
        for row in ("run", "run cook 0", "run taste 0", "run pour 0"):
            self.assertEqual(desk.say(row), "none")

    def test_faults(self):
        self.told(desk_of("pot 3 @ house 1 : 5 4"), fault="lack recipe 0 4")
        self.told(desk_of("taste @0.0 : 7 6 :"), fault="lack tasting 0 6")
        self.told(desk_of("pot 0 @ one 1 :", "pot 1 @ house 1 : 0"), fault="short 1 0")
        self.told(desk_of("pot 0 @ house 1 : 1", "pot 1 @ house 1 : 2", "pot 2 @ house 1 : 0"), fault="ring 0 1 2")
        self.told(desk_of("pot 0 @ house 1 : 1", "pot 1 @ house 1 : 0", "pot 2 @ house 1 : 7"), fault="lack recipe 2 7")

    def test_unsound_houses(self):
        for rows in (("pot 0 @ house 1 : 1",), ("taste @0.0 : 0 :",), ("pot 0 @ one 1 :", "pot 1 @ table 1 : 0"),
                     ("pot 0 @ one 1 : 1", "pot 1 @ one 1 : 0")):
            desk = desk_of(*rows)
            self.refused(desk, NotSound, "wants 0", "wants 9", f"wants {BIG}", "turns", "run", "run cook 0", "fewest",
                         "pick hot", "pick (", "pick @9", "turn 0 :", "turn 9 : 9")
            self.assertIn(desk.say("fault").split(" ")[0], ("lack", "short", "ring"))
            self.assertEqual(desk.say("house"), "tables 1\n" + "\n".join(rows))
            # What is no row is refused ahead of that.
            self.refused(desk, NoRow, "wants", "wants x", "turns 1", "run cook", "fewest 1", "pick", "turn",
                         f"wants {TOO_BIG}")

    def test_refused(self):
        desk = desk_of(*ROWS)
        self.refused(desk, NoTasting, "wants 3", "wants 10", f"wants {BIG}")
        self.refused(desk, NoText, "pick (", "pick hot sweet", "pick @2", "pick @0.1", "pick #8", "pick Hot",
                     "pick hot &", "pick &", "pick @01", f"pick #{BIG}", f"pick #{TOO_BIG}",
                     "pick abcdefghi", "pick " + "!" * 12 + "hot", "pick hot\n", "pick hot\t&\tsweet", "pick pick hot")

    def test_fewest(self):
        desk = desk_of(*ROWS, "turn 0 : 0 0", "turn 0 : 1 0", "turn 1 : 0", "turn 1 : 1", "turn 2 :")
        self.told(desk, fewest="4")
        # Told so, more are cooked.
        self.assertEqual(desk.say("run").count("cook"), 6)
        self.assertEqual(desk.say("taste @0.0 : :"), "ok")
        self.told(desk, fewest="0")
        for row in ("turn 0 : 0 0", "turn 0 : 1 0", "turn 1 : 0", "turn 1 : 1", "turn 2 :", "turn 3 :"):
            desk.say(row)
        self.refused(desk, TooMany, "fewest")
        self.assertEqual(desk.say("run").count("taste"), 6)
        desk.say("back")
        self.told(desk, fewest="4")


class DeedsTest(Checks):
    def test_evenings(self):
        desk = Desk()
        self.refused(desk, NoHouse, "evening 0", "evening 4", "evening 10", f"evening {BIG}")
        for many in (3, 1):
            self.assertEqual(desk.say(f"evening {many}"), "ok")
        self.told(desk, house="tables 1 3 1")
        self.refused(desk, TooMany, "evening 1", "evening 0", "evening 4", f"evening {BIG}")

    def test_recipes(self):
        desk = Desk()
        self.refused(desk, NoHouse, "pot 8 @ house 1 :", "pot 0 @1 house 1 :", "pot 0 @0.1 house 1 :",
                     "pot 0 @ house 0 :", "pot 0 @ house 4 :", "pot 0 @ house 1 : 8",
                     "pot 0 @ house 1 : 1 1", "pot 0 @ house 1 : 1 2 3 4", f"pot {BIG} @ house 1 :",
                     f"pot 0 @{BIG} house 1 :", f"pot 0 @0.{BIG} house 1 :",
                     f"pot 0 @ house {BIG} :", f"pot 0 @ house 1 : {BIG}", "pot 0 @ house 1 : 1 2 3 4 5 6 7 8 9")
        for name in range(8):
            needs = [str(other) for other in (5, 6, 7) if other != name]
            self.assertEqual(desk.say(" ".join([f"pot {name} @0 one 3 :", *needs])), "ok")
            if name < 7:
                self.refused(desk, NoHouse, f"pot {name} @0 house 1 :")
        self.refused(desk, TooMany, "pot 0 @ house 1 :", "pot 8 @ house 1 :", "pot 0 @0 house 1 :")
        desk.say("back")
        self.assertEqual(desk.say("pot 0 @0.0 house 1 :"), "ok")

    def test_tastings(self):
        desk = Desk()
        self.refused(desk, NoHouse, "taste @ : :", "taste @0 : :", "taste @1.0 : :", "taste @0.1 : :",
                     "taste @0.0 : 8 :", "taste @0.0 : 1 1 :", "taste @0.0 : 1 2 3 4 :",
                     "taste @0.0 : : b a", "taste @0.0 : : a a", "taste @0.0 : : a b c d e", f"taste @{BIG}.0 : :",
                     f"taste @0.0 : {BIG} :")
        for number in range(6):
            self.assertEqual(desk.say("taste @0.0 : 0 1 2 : a b c zzzzzzzz"), "ok")
        self.refused(desk, TooMany, "taste @0.0 : :", "taste @ : :")
        desk.say("back")
        self.assertEqual(desk.say("taste @0.0 : :"), "ok")

    def test_a_drop(self):
        desk = desk_of("pot 0 @ house 1 :", "pot 1 @ house 2 :", "pot 2 @ house 3 : 1", "taste @0.0 : 2 :")
        self.refused(desk, NoRecipe, "drop 3", "drop 10", f"drop {BIG}")
        self.assertEqual(desk.say("wants 0"), "1 2")
        self.assertEqual(desk.say("drop 0"), "ok")
        self.told(desk, house="tables 1\npot 1 @ house 2 :\npot 2 @ house 3 : 1\ntaste @0.0 : 2 :", turns="6")
        self.assertEqual(desk.say("wants 0"), "0 1")
        self.assertEqual(desk.say("drop 0"), "ok")
        self.told(desk, fault="lack recipe 0 1")
        self.assertEqual(desk.say("drop 0"), "ok")
        self.told(desk, house="tables 1\ntaste @0.0 : 2 :", fault="lack tasting 0 2")
        self.refused(desk, NoRecipe, "drop 0")
        for number in range(3):
            self.assertEqual(desk.say("back"), "ok")
        self.told(desk, turns="6",
                  house="tables 1\npot 0 @ house 1 :\npot 1 @ house 2 :\npot 2 @ house 3 : 1\ntaste @0.0 : 2 :")

    def test_turns(self):
        desk = desk_of(*ROWS)
        self.refused(desk, NoTurn, "turn 3 :", "turn 0 :", "turn 0 : 0", "turn 0 : 2 0", "turn 0 : 0 0 0",
                     "turn 2 : 0", f"turn {BIG} :", f"turn 0 : {BIG} 0", "turn 1 : 2")
        self.assertEqual(desk.say("turn 1 : 1"), "ok")
        self.refused(desk, NoOrder, "turn 1 : 1")
        self.assertEqual(desk.say("turn 2 :"), "ok")
        self.refused(desk, NoOrder, "turn 1 : 1", "turn 2 :")
        self.told(desk, run="cook 0 @ 1\ntaste 1: 1\ntaste 2:\npour 0 @ 1")

    def test_twelve_turns(self):
        rows = ("pot 0 @ house 3 :", "pot 1 @ house 3 :", "taste @0.0 : 0 1 :", "taste @0.0 : 0 1 :")
        turns = [f"turn {tasting} : {one} {other}" for tasting in range(2) for one in range(3) for other in range(3)]
        desk = desk_of(*rows, *turns[:12])
        self.assertEqual(desk.say("run").count("taste"), 12)
        self.refused(desk, TooMany, turns[12], turns[13], turns[0], turns[11])
        self.refused(desk, NoTurn, "turn 2 :", "turn 0 : 3 0")
        desk.say("back")
        self.refused(desk, NoOrder, turns[0])
        self.assertEqual(desk.say(turns[17]), "ok")
        self.refused(desk, TooMany, turns[11])

    def test_not_sound_ahead_of_no_turn(self):
        desk = desk_of(*ROWS)
        self.assertEqual(desk.say("pot 2 @ house 1 : 7"), "ok")
        self.refused(desk, NotSound, "turn 0 : 0 0", "turn 9 :")
        desk.say("back")
        self.assertEqual(desk.say("turn 0 : 0 0"), "ok")

    def test_what_each_deed_does_to_the_order(self):
        turns = ("turn 1 : 1", "turn 2 :")
        run = desk_of(*ROWS, *turns).say("run")
        self.assertEqual(desk_of(*ROWS, *turns, "evening 1").say("run"), run)
        for row in ("pot 7 @ house 1 :", "taste @0.0 : :"):
            desk = desk_of(*ROWS, *turns, row)
            self.told(desk, run="none")
            self.assertEqual(desk.say("turn 2 :"), "ok")
            self.told(desk, run="taste 2:")
            for number in range(2):
                desk.say("back")
            self.told(desk, run=run)
        desk = desk_of(*ROWS, "pot 7 @ house 1 :", *turns, "drop 2")
        self.told(desk, run="none")
        self.refused(desk, NoRecipe, "drop 2")
        desk.say("back")
        self.told(desk, run=run)
        for row in ("pot 8 @ house 1 :", "taste @0 : :", "drop 9", "evening 0", "turn 2 :", "turn 9 :", "pick (",
                    "nothing"):
            self.assertRaises(TasteError, desk.say, row)
            self.told(desk, run=run)

    def test_back_behind_each_deed_through_looks_and_refused_rows(self):
        rows = [*ROWS, "turn 0 : 0 0", "turn 2 :", "evening 3", "turn 1 : 1", "drop 0", "pot 0 @ house 3 :", "drop 0",
                "taste @1.1 : 0 :"]
        desk, steps = Desk(), []
        for row in rows:
            steps.append(seen(desk))
            self.assertEqual(desk.say(row), "ok")
            self.refused(desk, NoRow, "", "backs", "back 1")
            self.refused(desk, NoHouse, "taste @ : :")
        for step in reversed(steps):
            self.refused(desk, NoRecipe, "drop 8")
            self.assertEqual(desk.say("back"), "ok")
            self.assertEqual(seen(desk), step)
        self.refused(desk, NoDeed, "back")
        # Back itself is not undone, and deeds go on from where it led.
        self.assertEqual(desk.say("evening 1"), "ok")
        self.assertEqual(desk.say("back"), "ok")
        self.refused(desk, NoDeed, "back")


class RowsTest(Checks):
    right = (
        "evening 2", "pot 0 @ house 2 :", "pot 0 @0 one 2 : 1", "pot 0 @0.0 table 1 : 1 2",
        "pot 1 @1.1 evening 3 : 0 2 3", "taste @0.0 : :", "taste @0.0 : 1 :",
        "taste @0.0 : : hot", "taste @1.1 : 1 2 : hot sweet", "drop 0", "turn 0 :", "turn 0 : 1", "turn 0 : 1 0",
        "back", "house", "fault", "wants 0", "turns",
        "run", "run cook 0", "run taste 0", "run pour 0", "fewest", "pick hot", "pick hot & sweet",
    )
    desks = ((), ("evening 2", "pot 1 @ house 3 :", "pot 2 @ one 2 : 1", "taste @0.0 : 2 : hot", "turn 0 : 0 0"),
             ("pot 0 @ house 1 : 7",))

    def no_row(self, *rows):
        for before in self.desks:
            self.refused(desk_of(*before), NoRow, *rows)

    def is_row(self, row):
        """Refused or not, it is a row."""
        for before in self.desks:
            self.assertNotEqual(answer_or_error(desk_of(*before), row), NoRow, row)

    def test_right(self):
        for row in self.right:
            self.is_row(row)

    def test_a_word_too_few_too_many_or_otherwise(self):
        for row in self.right:
            words = row.split(" ")
            for at, word in enumerate(words):
                for other in ([], [word, word], [word.upper()], ["x1"], ["-1"], ["01"], ["%"], [""], [word + ","],
                              [word + "\n"], ["\t"], [":"], [TOO_BIG]):
                    told = " ".join([*words[:at], *other, *words[at + 1:]])
                    if not plain_is_row(told):
                        self.no_row(told)
                    else:
                        self.is_row(told)

    def test_blanks(self):
        for row in self.right:
            self.no_row(" " + row, row + " ", row + "  ", row.replace(" ", "  ", 1) + " " * (" " not in row),
                        "\n" + row, row.replace(" ", "\t", 1) + "\t")
            # Of a pick all words that follow are its text, whatever signs they are of.
            if not row.startswith("pick"):
                self.no_row(row + "\n", row + "\t", row + "\r")

    def test_other_words(self):
        self.no_row(
            "", " ", "ok", "none", "House", "HOUSE", "houses", "turns 1", "house 0", "fault 0", "fewest 5",
            "back back", "evening", "evening 1 2", "evening @", "evening one",
            "drop", "drop 0 1", "drop @0", "wants", "wants 0 1", "wants hot", "run 0", "run cook", "run cook x",
            "run 0 cook", "run burn 0", "run miss 0", "run cook 0 1",
            "run cook 0 taste 0", "run left 0", "pick", "turn", "turn 0", "turn :", "turn 0: 1", "turn 0:", "turn : 0",
            "turn 0 1", "turn 0 : 1 :", "turn 0 : x", "turn 0 : 1,0",
            "pot", "pot 0", "pot 0 @ house 2", "pot 0 @ house 2:", "pot 0 @ house :", "pot 0 @ 3 2 :",
            "pot 0 @ home 2 :", "pot @ 0 house 2 :", "pot 0 0 house 2 :", "pot 0 @0.0.0 house 2 :",
            "pot 0 @00 house 2 :", "pot 0 @ house 2 : hot", "pot 0 @ house 2 : 1 :", "pot 0 @ house 2 1",
            "pot 00 @ house 2 :", "pot 0 @ house 02 :", "pot 0 @ house 2 : 01",
            "taste", "taste @0.0", "taste @0.0 :", "taste @0.0 : 1", "taste @0.0 : hot", "taste @0.0 : hot :",
            "taste @0.0 : : :", "taste @0.0 : : 1", "taste @0.0 : : hot :", "taste : :",
            "taste 0.0 : :", "taste @0.0 : : Hot", "taste @0.0 : : abcdefghi", "taste @0.0 1 : :",
            "taste @0.0 : : hot,sweet", "taste @0.0 : : h0t", "taste @0.0 :: ", "taste @0.0 : 1,2 :",
            "tables 1", "0: 0", "list", "order", "undo", "quit", "a" * 2000, "house\nhouse", "evening 1\n",
            "evening +1", "evening 1.0", "evening -1", "evening 1_0",
        )

    def test_numbers_of_forty_figures_and_more(self):
        for row in ("evening {}", "drop {}", "wants {}", "turn {} :", "turn 0 : {}", "run cook {}", "run taste {}",
                    "run pour {}", "pot {} @ house 1 :", "pot 0 @{} house 1 :",
                    "pot 0 @0.{} house 1 :", "pot 0 @ house {} :", "pot 0 @ house 1 : {}", "taste @{}.0 : :",
                    "taste @0.{} : :", "taste @0.0 : {} :"):
            self.is_row(row.format(BIG))
            self.is_row(row.format("1" + "0" * 39))
            self.no_row(row.format(TOO_BIG), row.format("9" * 41), row.format("0" * 41), row.format("1" * 1900))

    def test_other_kinds(self):
        desk = desk_of(*ROWS, "turn 2 :")
        rows = [thing for thing in STRANGE if thing != "house"]
        self.refused(desk, NoRow, *rows, ["house"], ("house",), {"house": 1}, b"house", ["evening", "1"], ("pot", 0),
                     0, [["house"]])


def plain_is_row(row):
    """Told by rules alone."""
    number, word = "(0|[1-9][0-9]{0,39})", "[a-z]{1,8}"
    spot = f"@({number}(\\.{number})?)?"
    rules = (
        f"evening {number}", f"pot {number} {spot} (one|table|evening|house) {number} :( {number})*",
        f"taste {spot} :( {number})* :( {word})*", f"drop {number}",
        f"turn {number} :( {number})*", "back|house|fault|turns|fewest|run", f"wants {number}",
        f"run (cook|taste|pour) {number}", "pick( [^ ]+)+",
    )
    return any(re.fullmatch(rule, row) for rule in rules)


class PlainDesk:
    """The words of [112] told once more, over what the other modules tell."""

    def __init__(self):
        self.past = [(((1,), (), ()), ())]

    def say(self, row):
        (tables, recipes, tastings), order = house, order = self.past[-1]
        word, *words = row.split(" ")
        if not plain_is_row(row):
            return NoRow
        if word == "back":
            return NoDeed if len(self.past) == 1 else self.past.pop() and "ok"
        if word == "evening":
            new = (*tables, int(words[0]))
            return TooMany if len(tables) == 3 else self.become(new, recipes, tastings, order=order)
        if word == "pot":
            new = house_read_loosely(row)
            return TooMany if len(recipes) == 8 else self.become(tables, (*recipes, new), tastings)
        if word == "taste":
            new = house_read_loosely(row)
            return TooMany if len(tastings) == 6 else self.become(tables, recipes, (*tastings, new))
        if word == "drop":
            left = tuple(recipe for number, recipe in enumerate(recipes) if number != int(words[0]))
            return NoRecipe if left == recipes else self.become(tables, left, tastings)
        return self.sound_rows(house, order, word, words)

    def become(self, *house, order=()):
        if not is_house(house):
            return NoHouse
        self.past.append((house, order))
        return "ok"

    def sound_rows(self, house, order, word, words):
        fault = plain_fault(house)
        if word == "house":
            return house_text(house)
        if word == "fault":
            return " ".join(map(str, (fault[0], *fault[1]))) if fault else "none"
        if fault:
            return NotSound
        if word == "turn":
            turn = int(words[0]), tuple(map(int, words[2:]))
            if turn not in plain_turns(house):
                return NoTurn
            if len(order) == 12:
                return TooMany
            return NoOrder if turn in order else self.become(*house, order=(*order, turn))
        if word == "wants":
            number = int(words[0])
            return NoTasting if number >= len(house[2]) else numbers(plain_wanted(house, plain_needs(house, number)))
        if word == "turns":
            return str(len(plain_turns(house)))
        if word == "run":
            mishaps = ((words[0], int(words[1])),) if words else ()
            return list_text(house, order, mishaps, 1) or "none"
        if word == "fewest":
            return TooMany if len(order) > 5 else str(min(cooked(house, row) for row in itertools.permutations(order)))
        try:
            return numbers(picked(house, pick_read(house, " ".join(words))))
        except NoText:
            return NoText


def numbers(told):
    return " ".join(map(str, told)) or "none"


def house_read_loosely(row):
    """The recipe or the tasting that a row tells, whether there can be such a one or not."""
    parts = [part.split() for part in row.split(":")]
    ahead, needs = parts[0], tuple(map(int, parts[1]))
    spot = tuple(int(number) for number in ahead[2 if ahead[0] == "pot" else 1][1:].split(".") if number)
    if ahead[0] == "pot":
        return int(ahead[1]), spot, ["one", "table", "evening", "house"].index(ahead[3]), int(ahead[4]), needs
    return spot, needs, tuple(parts[2])


def made_row(chance, desk):
    """A row by chance, such as fits the desk, almost or not at all."""
    (tables, recipes, tastings), order = house, order = desk.past[-1]
    needs = "".join(f" {name}" for name in chance.sample(range(4), chance.choice((0, 0, 1, 1, 2))))
    spot = "@" + ".".join(map(str, chance.choice(spots_of(house))))
    way = chance.randrange(12)
    if way == 0:
        return f"evening {chance.randint(0, 4)}"
    if way == 1:
        keep = chance.choice(("one", "table", "evening", "house", "house"))
        return f"pot {chance.randint(0, 4)} {spot} {keep} {chance.randint(1, 3)} :{needs}"
    if way == 2:
        words = "".join(f" {word}" for word in sorted(chance.sample(("a", "b", "hot"), chance.randint(0, 3))))
        return f"taste @0.0 :{needs} :{words}" if chance.random() < 0.7 else f"taste {spot} :{needs} :{words}"
    if way == 3:
        return f"drop {chance.randint(0, len(recipes))}"
    if way in (4, 5, 6) and plain_fault(house) is None and plain_turns(house):
        tasting, sorts = chance.choice(plain_turns(house))
        return " ".join([f"turn {tasting} :", *map(str, sorts)])
    if way == 7:
        return chance.choice(("back", "turn 0 :", "turn 1 : 0"))
    if way == 8:
        return f"run {chance.choice(('cook', 'taste', 'pour'))} {chance.randint(0, 6)}"
    if way == 9:
        return "pick " + chance.choice(("a", "hot & !a", "@0.0 | b", "#1", "#2 & a", "a b", "!(a | #0)", "@1"))
    return chance.choice((*LOOKS, "wants 0", "wants 1", "wants 2"))


class AnyRowsTest(Checks):
    def test_rows_by_chance(self):
        chance = random.Random(116)
        met = set()
        for number in range(60):
            desk, plain = Desk(), PlainDesk()
            if number % 3:
                for row in ("pot 0 @ house 2 :", "pot 1 @ one 1 : 0", "taste @0.0 : 1 : a", "taste @0.0 : 0 :"):
                    self.assertEqual((desk.say(row), plain.say(row)), ("ok", "ok"))
            for step in range(50):
                row = made_row(chance, plain) if step or number % 3 else "back"
                if chance.random() < 0.05:
                    at = chance.randrange(len(row))
                    row = row[:at] + chance.choice((" ", "", "x", "0")) + row[at + 1:]
                told = answer_or_error(desk, row)
                met.add(told if isinstance(told, type) else "text")
                self.assertEqual(told, plain.say(row), (row, plain.past[-1]))
        self.assertTrue(met >= {"text", NoRow, NoDeed, TooMany, NoHouse, NoRecipe, NotSound, NoTurn, NoOrder,
                                NoTasting, NoText}, met)

    def test_whole_houses_row_by_row(self):
        chance = random.Random(117)
        houses = [house for house in [made_worded_house(chance) for number in range(150)] if house[0][0] == 1]
        self.assertGreater(len(houses), 30)
        for house in houses:
            order = made_order(chance, house, 5)
            desk = desk_of(*rows_of(house, order))
            self.told(desk, house=house_text(house), fault="none", turns=str(len(plain_turns(house))),
                      run=list_text(house, order, (), 1) or "none",
                      fewest=str(fewest_pots(house, order)))
            self.assertEqual(house_read(desk.say("house")), house)
            for tasting in range(len(house[2])):
                wanted = plain_wanted(house, plain_needs(house, tasting))
                self.assertEqual(desk.say(f"wants {tasting}"), numbers(wanted))

    def test_samples_row_by_row(self):
        for house in (SOUND, KITCHEN, HOUSE):
            narrow = ((1, *house[0][1:]), tuple(recipe for recipe in house[1] if recipe[1] != (0, 1)),
                      tuple(tasting for tasting in house[2] if tasting[0] != (0, 1)))
            self.assertEqual(desk_of(*rows_of(narrow)).say("house"), house_text(narrow))


class ApartTest(Checks):
    def test_two_desks(self):
        one, other = desk_of(*ROWS), Desk()
        self.told(other, house="tables 1", turns="0")
        self.refused(other, NoDeed, "back")
        self.assertEqual(other.say("evening 3"), "ok")
        self.assertEqual(one.say("turn 2 :"), "ok")
        self.told(other, house="tables 1 3", run="none")
        self.told(one, house="tables 1 2\n" + "\n".join(ROWS[1:]), run="taste 2:")

    def test_nothing_handed_in_is_changed_and_the_same_answer_again(self):
        desk = desk_of(*ROWS, "turn 1 : 0")
        self.assertEqual(seen(desk), seen(desk))
        for thing in ([0, [1]], {"a": [0]}, ([0],), ["house"], [["house"]]):
            before = copy.deepcopy(thing)
            self.refused(desk, NoRow, thing)
            self.assertEqual(thing, before)

    def test_kinds_told(self):
        desk = desk_of(*ROWS)
        for row in (*LOOKS, "wants 0", "pick hot", "evening 1", "back"):
            self.assertIsInstance(desk.say(row), str)


if __name__ == "__main__":
    unittest.main()
