"""[3], [4], [5], [82], [111]: texts of houses, turns and lists of runs."""

import copy
import random
import re
import unittest

from plain import made_house, made_mishaps, made_order, made_sound_house, made_worded_house, plain_turns
from samples import FULLEST, HOUSE, KITCHEN, NO_ORDERS, SMALLEST, SOUND, STRANGE, UNSOUND
from tastehouse.errors import NoMishaps, NoNumber, NoOrder, NoText, NotSound, NoTurn
from tastehouse.houses import is_house
from tastehouse.runs import run_list
from tastehouse.signs import number_read, numbers_read, spot_read, spot_text
from tastehouse.texts import house_read, house_text, list_text, turn_read, turn_text
from tastehouse.turns import is_turn

# The document's own lines are among these.
EXAMPLE = (
    (1, 2),
    ((3, (0, 0), 1, 2, ()), (4, (), 3, 1, (3, 0)), (0, (1,), 2, 3, ()), (0, (), 0, 1, (4,)),
     (3, (1, 1), 0, 1, (0, 3, 7))),
    (((0, 0), (), ()), ((1, 1), (3,), ("hot", "sweet")), ((1, 0), (0, 4), ()), ((1, 0), (), ("a",))),
)
EXAMPLE_LINES = [
    "tables 1 2",
    "pot 3 @0.0 table 2 :",
    "pot 4 @ house 1 : 3 0",
    "pot 0 @1 evening 3 :",
    "pot 0 @ one 1 : 4",
    "pot 3 @1.1 one 1 : 0 3 7",
    "taste @0.0 : :",
    "taste @1.1 : 3 : hot sweet",
    "taste @1.0 : 0 4 :",
    "taste @1.0 : : a",
]
NUMBER = "(0|[1-9][0-9]*)"
SPOT = f"@({NUMBER}(\\.{NUMBER})?)?"
LINES = [re.compile(line) for line in (
    f"tables( {NUMBER})+", f"pot {NUMBER} {SPOT} (one|table|evening|house) {NUMBER} :( {NUMBER})*",
    f"taste {SPOT} :( {NUMBER})* :( [a-z]{{1,8}})*",
)]


def plain_house_read(text):
    """The house that a text writes, or None."""
    first, *lines = text.split("\n")
    pots = [line for line in lines if line[:4] == "pot "]
    tastes = lines[len(pots):]
    told = [(LINES[0], first), *[(LINES[1], line) for line in lines[:len(pots)]],
            *[(LINES[2], line) for line in tastes]]
    if not all(rule.fullmatch(line) for rule, line in told):
        return None

    def numbers(part):
        return tuple(int(number) for number in part.split())

    def spot(part):
        return tuple(int(number) for number in part[1:].split(".") if number)
    recipes = []
    for line in lines[:len(pots)]:
        ahead, needs = line.split(":")
        word, name, at, keep, sorts = ahead.split()
        recipes.append((int(name), spot(at), ["one", "table", "evening", "house"].index(keep), int(sorts),
                        numbers(needs)))
    tastings = []
    for line in tastes:
        ahead, needs, words = line.split(":")
        tastings.append((spot(ahead.split()[1]), numbers(needs), tuple(words.split())))
    house = numbers(first[6:]), tuple(recipes), tuple(tastings)
    return house if is_house(house) else None


class HouseTest(unittest.TestCase):
    def no_text(self, *things):
        for thing in things:
            with self.subTest(thing=repr(thing)[:300]):
                self.assertRaises(NoText, house_read, thing)

    def test_each_kind_of_line(self):
        self.assertEqual(house_text(EXAMPLE), "\n".join(EXAMPLE_LINES))
        self.assertEqual(house_read("\n".join(EXAMPLE_LINES)), EXAMPLE)
        self.assertEqual(house_text(SMALLEST), "tables 1")
        self.assertEqual(house_read("tables 1"), SMALLEST)

    def test_the_documents_own_lines(self):
        lines = ["tables 2", "pot 3 @0.1 table 2 :", "pot 4 @ house 1 : 3 0", "taste @0.0 : :",
                 "taste @0.1 : 3 : hot sweet"]
        house = ((2,), ((3, (0, 1), 1, 2, ()), (4, (), 3, 1, (3, 0))),
                 (((0, 0), (), ()), ((0, 1), (3,), ("hot", "sweet"))))
        self.assertEqual(house_text(house), "\n".join(lines))
        self.assertEqual(house_read("\n".join(lines)), house)

    def test_written_and_read_again(self):
        chance = random.Random(111)
        houses = [made_house(chance) for number in range(150)] + [made_worded_house(chance) for number in range(100)]
        for house in (HOUSE, FULLEST, SOUND, KITCHEN, SMALLEST, *UNSOUND, *houses):
            text = house_text(house)
            self.assertEqual(house_read(text), house)
            self.assertEqual(plain_house_read(text), house)
            self.assertTrue(all(line == line.strip() for line in text.split("\n")))

    def test_one_sign_more_less_or_otherwise(self):
        chance = random.Random(112)
        read = {True: 0, False: 0}
        houses = [EXAMPLE, SOUND, SMALLEST] + [made_worded_house(chance) for number in range(10)]
        texts = [house_text(house) for house in houses]
        for number in range(4000):
            text = chance.choice(texts)
            at, sign = chance.randint(0, len(text)), chance.choice("0123789 :.@\nahotspe\t-+A")
            text = text[:at] + chance.choice(("", sign)) + text[at + chance.randint(0, 1):]
            right = plain_house_read(text)
            read[right is None] += 1
            if right is None:
                self.no_text(text)
            else:
                self.assertEqual(house_read(text), right, text)
                self.assertEqual(house_text(right), text)
        self.assertGreater(min(read.values()), 300)

    def test_lines_more_less_and_exchanged(self):
        text = "\n".join(EXAMPLE_LINES)
        self.no_text("\n" + text, text + "\n", text.replace("\n", "\n\n", 1), text.replace("\n", "\r\n"),
                     text.replace("\n", " "), text + "\ntables 1")
        for at, line in enumerate(EXAMPLE_LINES):
            ahead, behind = EXAMPLE_LINES[:at], EXAMPLE_LINES[at + 1:]
            for other in (line + " ", " " + line, line.replace(" ", "  ", 1), line + "\n", line.upper(), line + ":",
                          line + " :", line[1:], "",
                          line + " 9", "x " + line, line.replace(" ", "\t", 1), line.replace(" ", "", 1), line + "\r",
                          line + " x9", line + " -1", line + " 01"):
                self.no_text("\n".join([*ahead, other, *behind]))
        self.no_text("\n".join(EXAMPLE_LINES[1:]),
                     "\n".join(EXAMPLE_LINES[:1] + EXAMPLE_LINES[6:7] + EXAMPLE_LINES[1:6]),
                     "\n".join(EXAMPLE_LINES[::-1]))
        # Two recipes, or words, exchanged make another house.
        self.assertEqual(house_read("\n".join([*EXAMPLE_LINES[:1], *EXAMPLE_LINES[2:0:-1],
                                               *EXAMPLE_LINES[3:]]))[1][:2], EXAMPLE[1][1::-1])
        self.no_text(text.replace("hot sweet", "sweet hot"), text.replace("hot sweet", "hot hot"),
                     text.replace(": 3 0", ": 3 3"))

    def test_what_is_no_house(self):
        self.no_text(
            "", " ", "\n", "tables", "tables ", "tables 0", "tables 4", "tables 1 2 3 1", "tables 01", "tables 1 0",
            "tables -1", "tables +1", "tables 1.0",
            "tables x", "Tables 1", "table 1", "tables: 1", "tables 1 :", "1", "pot 3 @ house 1 :", "taste @0.0 : :",
            "tables 1\npot", "tables 1\ntaste",
            "tables 1\npot 8 @ house 1 :", "tables 1\npot 03 @ house 1 :", "tables 1\npot 3 @1 house 1 :",
            "tables 1\npot 3 @0.1 house 1 :",
            "tables 1\npot 3 @0.0.0 house 1 :", "tables 1\npot 3 0.0 house 1 :", "tables 1\npot 3 @00 house 1 :",
            "tables 1\npot 3 @0. house 1 :",
            "tables 1\npot 3 @ home 1 :", "tables 1\npot 3 @ 3 1 :", "tables 1\npot 3 @ house 0 :",
            "tables 1\npot 3 @ house 4 :", "tables 1\npot 3 @ house 1",
            "tables 1\npot 3 @ house 1 : 8", "tables 1\npot 3 @ house 1 : 1 1", "tables 1\npot 3 @ house 1 : 1 2 3 4",
            "tables 1\npot 3 @ house 1 : hot",
            "tables 1\npot 3 @ house 1 : :", "tables 1\npot 3 @ house : 1", "tables 1\npot 3 @ house 1 1",
            "tables 1\npot 3 @ house :",
            "tables 1\npot 3 @ house 1 :\npot 3 @ table 1 :", "tables 1\ntaste @ : :", "tables 1\ntaste @0 : :",
            "tables 1\ntaste @0.1 : :",
            "tables 1\ntaste @0.0 :", "tables 1\ntaste @0.0", "tables 1\ntaste : :", "tables 1\ntaste @0.0 : : :",
            "tables 1\ntaste @0.0 : : b a",
            "tables 1\ntaste @0.0 : : abcdefghi", "tables 1\ntaste @0.0 : : A", "tables 1\ntaste @0.0 : : 1",
            "tables 1\ntaste @0.0 : a :", "tables 1\ntaste @0.0 : 8 :",
            "tables 1\ntaste @0.0 1 : :", "tables 1\ntaste @0.0 : : a b c d e", "tables 1\ntaste @0.0 : 1 2 3 4 :",
            "tables 1\ntaste : @0.0 :", "tables 1\ntaste : : @0.0",
            "tables " + "1" * 40, "tables 1\npot " + "0" * 1900 + " @ house 1 :",
            "tables 1\n" + "\n".join(f"pot {name} @ house 1 :" for name in range(9)),
            "tables 1\n" + "\n".join(["taste @0.0 : :"] * 7),
            "tables 1\n" + "\n".join([f"pot {name} @ house 1 :" for name in range(8)] + ["pot 0 @0 house 1 :"]),
        )

    def test_at_the_bounds(self):
        text = house_text(FULLEST)
        self.assertEqual(house_read(text), FULLEST)
        full = "tables 1\n" + "\n".join([f"pot {name} @ house 1 :" for name in range(8)] + ["taste @0.0 : 0 1 2 : a b c d"] * 6)
        self.assertEqual(house_text(house_read(full)), full)

    def test_other_kinds(self):
        self.no_text(*STRANGE, SMALLEST, EXAMPLE, ["tables 1"], ("tables 1",), {"tables": 1}, b"tables 1", 1)


class TurnTest(unittest.TestCase):
    def no_text(self, house, *things):
        for thing in things:
            with self.subTest(thing=repr(thing)[:300]):
                self.assertRaises(NoText, turn_read, house, thing)

    def test_by_hand(self):
        for turn, text in (((0, (0, 1, 0, 1)), "0: 0 1 0 1"), ((3, (2,)), "3: 2"), ((4, ()), "4:")):
            self.assertEqual(turn_text(KITCHEN, turn), text)
            self.assertEqual(turn_read(KITCHEN, text), turn)

    def test_the_documents_own(self):
        recipes = ((0, (), 3, 1, ()), (1, (), 3, 2, ()))
        house = ((1,), recipes, (((0, 0), (), ()), ((0, 0), (), ()), ((0, 0), (0, 1), ())))
        self.assertEqual(turn_text(house, (2, (0, 1))), "2: 0 1")
        self.assertEqual(turn_read(house, "2: 0 1"), (2, (0, 1)))
        self.assertEqual(turn_text((*house[:2], house[2][:2] * 2), (2, ())), "2:")
        self.assertEqual(turn_read((*house[:2], house[2][:2] * 2), "2:"), (2, ()))

    def test_written_and_read_again(self):
        chance = random.Random(113)
        for number in range(60):
            house = made_sound_house(chance)
            turns = plain_turns(house)
            for turn in chance.sample(turns, min(len(turns), 30)):
                text = turn_text(house, turn)
                self.assertEqual(text, " ".join([f"{turn[0]}:", *map(str, turn[1])]))
                self.assertEqual(turn_read(house, text), turn)

    def test_one_sign_more_less_or_otherwise(self):
        chance = random.Random(114)
        right = {" ".join([f"{tasting}:", *map(str, sorts)]): (tasting, sorts) for tasting, sorts in plain_turns(SOUND)}
        read = {True: 0, False: 0}
        for number in range(3000):
            text = chance.choice(sorted(right))
            at, sign = chance.randint(0, len(text)), chance.choice("0123 :a\n-")
            text = text[:at] + chance.choice(("", sign)) + text[at + chance.randint(0, 1):]
            read[text in right] += 1
            if text in right:
                self.assertEqual(turn_read(SOUND, text), right[text])
            else:
                self.no_text(SOUND, text)
        self.assertGreater(min(read.values()), 300)

    def test_what_is_no_turn(self):
        self.no_text(
            KITCHEN, "", " ", ":", "4", "4: ", " 4:", "4 :", "4::", "04:", "4:\n", "\n4:", "-4:", "+4:", "5:", "4: 0",
            "3:", "3: 3", "3: 03", "3: 2 ", "3:  2",
            "3:2", "3 : 2", "3 2", "3: 2 0", "3: -1", "3: x", "x: 2", "0: 0 1 0", "0: 0 1 0 2", "0: 0 1 0 1 0",
            "3: 2\n", "3: 2:", "3: :2", "3;2", "3, 2", "4: :",
            "3:\t2", "3: 2\r", "9" * 40 + ":", "3: " + "2" * 1900, "3:" + " 2" * 900, "3: 1\n3: 2", "4:4:", "44:",
            "4:4",
        )

    def test_other_kinds(self):
        self.no_text(KITCHEN, *STRANGE, (4, ()), ["4:"], ("4:",), b"4:", {"4:": 4}, 4)


class ListTest(unittest.TestCase):
    def test_by_hand(self):
        order = ((0, (0, 0, 0, 0)), (2, (1, 0, 1)))
        self.assertEqual(list_text(KITCHEN, order, (("cook", 3), ("pour", 1), ("taste", 0)), 9), "\n".join([
            "cook 0 @ 0", "cook 1 @0 0 0", "cook 2 @0.0 0 0 0", "burn 3 @0.0.0 0 0 0 0", "miss 0: 0 0 0 0",
            "pour 2 @0.0 0 0 0", "spill 1 @0 0 0", "pour 0 @ 0", "cook 0 @ 1", "cook 1 @1 1 0", "cook 2 @1.0 1 0 1",
            "bad 2: 1 0 1",
            "pour 2 @1.0 1 0 1", "pour 1 @1 1 0", "pour 0 @ 1",
        ]))
        self.assertEqual(list_text(KITCHEN, ((4, ()),), (), 1), "taste 4:")
        self.assertEqual(list_text(KITCHEN, (), (), 1), "")
        self.assertEqual(list_text(SMALLEST, (), (("cook", 0),), 1), "")

    def test_the_documents_own_lines(self):
        house = ((3,), ((0, (), 0, 1, ()), (1, (), 1, 1, ()), (2, (), 3, 1, ()), (3, (), 1, 1, (1,)),
                        (4, (), 3, 1, ())),
                 (((0, 0), (), ()), ((0, 0), (), ()), ((0, 1), (0,), ()), ((0, 1), (3,), ()), ((0, 1), (4,), ())))
        self.assertEqual(list_text(house, ((2, (0,)),), (("cook", 0),), 1), "burn 0 @0.1.2 0\nmiss 2: 0")
        self.assertEqual(list_text(house, ((3, (0, 0)),), (), 1).split("\n")[1], "cook 3 @0.1 0 0")
        self.assertEqual(list_text(house, ((4, (0,)),), (), 1).split("\n")[-1], "pour 4 @ 0")

    def test_made_houses(self):
        chance = random.Random(115)
        words = set()
        for number in range(100):
            house = made_sound_house(chance)
            order, mishaps, often = made_order(chance, house, 12), made_mishaps(chance, 6), chance.randint(1, 4)
            deeds = run_list(house, order, mishaps, often)
            lines = list_text(house, order, mishaps, often).split("\n") if deeds else []
            self.assertEqual(len(lines), len(deeds))
            for line, (word, thing) in zip(lines, deeds):
                words.add(word)
                if word in ("taste", "bad", "miss"):
                    self.assertEqual(line, f"{word} {turn_text(house, thing)}")
                    self.assertEqual(turn_read(house, line[len(word) + 1:]), thing)
                else:
                    place = "@" + ".".join(map(str, thing[1]))
                    self.assertEqual(line.split(" "), [word, str(thing[0]), place, *map(str, thing[2])])
        self.assertEqual(words, {"cook", "burn", "taste", "bad", "miss", "pour", "spill"})


class SignsTest(unittest.TestCase):
    def test_numbers(self):
        for text, right in (("0", 0), ("7", 7), ("10", 10), ("100", 100), ("9" * 40, 10 ** 40 - 1),
                            ("1" + "0" * 39, 10 ** 39)):
            self.assertEqual(number_read(text), right)
        for text in ("", "00", "01", "-1", "+1", " 1", "1 ", "1.0", "1_0", "a", "1a", "1\n", "9" * 41, "0" * 41,
                     "1" * 2000, "1" * 5000, "\u0663", "\u00b2"):
            self.assertIsNone(number_read(text))
        self.assertEqual(numbers_read([]), ())
        self.assertEqual(numbers_read(["0", "12"]), (0, 12))
        for texts in (["0", ""], ["x"], ["1", "01", "2"]):
            self.assertIsNone(numbers_read(texts))

    def test_spots(self):
        for spot, text in (((), "@"), ((0,), "@0"), ((0, 1), "@0.1"), ((12, 345), "@12.345")):
            self.assertEqual(spot_text(spot), text)
            self.assertEqual(spot_read(text), spot)
        self.assertEqual(spot_text((0, 1, 2)), "@0.1.2")
        for text in ("", "0", "0.1", "@@", "@ ", " @", "@.", "@0.", "@.0", "@0.1.2", "@00", "@0.01", "@x", "@-1",
                     "@0,1", "x0", ".0", "@" + "1" * 41):
            self.assertIsNone(spot_read(text))


class RefusalsTest(unittest.TestCase):
    def test_turns(self):
        for thing in ((0, ()), (5, ()), (4, [0]), [4, ()], (True, ()), (4, (0,)), (3, (True,)), (3, (3,)), "4:",
                      *STRANGE):
            with self.subTest(thing=repr(thing)[:300]):
                self.assertIs(is_turn(KITCHEN, thing), False)
                self.assertRaises(NoTurn, turn_text, KITCHEN, thing)

    def test_lists(self):
        for thing in (*NO_ORDERS, *STRANGE):
            self.assertRaises(NoOrder, list_text, KITCHEN, thing, (), 1)
            self.assertRaises(NoOrder, list_text, KITCHEN, thing, None, None)
        for thing in (0, [], (("burn", 0),), (("cook", 1), ("cook", 0)), *STRANGE):
            self.assertRaises(NoMishaps, list_text, KITCHEN, (), thing, 1)
            self.assertRaises(NoMishaps, list_text, KITCHEN, (), thing, 0)
        for thing in (0, 100, (), *STRANGE):
            self.assertRaises(NoNumber, list_text, KITCHEN, (), (), thing)

    def test_an_unsound_house_ahead_of_all(self):
        for house in UNSOUND:
            for thing in ((0, ()), None, "0:", "", [], 0):
                self.assertRaises(NotSound, turn_text, house, thing)
                self.assertRaises(NotSound, turn_read, house, thing)
                self.assertRaises(NotSound, list_text, house, thing, thing, thing)
            self.assertRaises(NotSound, list_text, house, (), (), 1)
            # Houses are written whether they are sound or not.
            self.assertEqual(house_read(house_text(house)), house)

    def test_nothing_handed_in_is_changed_and_the_same_answer_again(self):
        house, order, mishaps = copy.deepcopy((KITCHEN, ((3, (2,)), (4, ())), (("cook", 0),)))

        def asked():
            return [house_text(house), turn_text(house, order[0]), list_text(house, order, mishaps, 2),
                    turn_read(house, "3: 2"), house_read("tables 1")]
        self.assertEqual(asked(), asked())
        self.assertEqual((house, order, mishaps), (KITCHEN, ((3, (2,)), (4, ())), (("cook", 0),)))
        for thing in ([0, [1]], {"a": [0]}, ([0],), ["tables 1"]):
            before = copy.deepcopy(thing)
            self.assertRaises(NoText, house_read, thing)
            self.assertRaises(NoText, turn_read, house, thing)
            self.assertRaises(NoTurn, turn_text, house, thing)
            self.assertEqual(thing, before)


if __name__ == "__main__":
    unittest.main()
