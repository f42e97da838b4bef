"""[3], [4], [5], [7], [101], [102]: ledgers, what is known of turns, and what is lost as a house is changed."""

import copy
import random
import unittest

from plain import made_busy_house, made_sound_house, plain_fault, plain_needs, plain_turns, plain_wanted, spots_of
from samples import FULLEST, KITCHEN, SMALLEST, SOUND, STRANGE, UNSOUND, at_house
from tastehouse.errors import NoDeed, NoHouse, NoRecipe, NotSound, NoTurn, NoWord, TasteError, TooMany
from tastehouse.houses import is_house
from tastehouse.ledger import Ledger
from tastehouse.turns import many_turns

# 0 is wanted for both tastings, 1 for the first one alone, 2 for none.
PAIR = ((2,), at_house((), (0,), (), sorts=(2, 1, 1)), (((0, 0), (1,), ()), ((0, 1), (0,), ())))
ONE, ONE_MORE, TWO, TWO_MORE = (0, (0, 0)), (0, (1, 0)), (1, (0,)), (1, (1,))
ALL = [ONE, ONE_MORE, TWO, TWO_MORE]


def wants(house, tasting):
    """What a tasting wants: the recipes in order, and each of them as it is."""
    return [(number, house[1][number]) for number in plain_wanted(house, plain_needs(house, tasting))]


class PlainLedger:
    """The words of [101] and [102]: all deeds are kept, and what is known is looked for in them anew."""

    def __init__(self, house):
        self.houses, self.notes = [house], [None]

    def known(self, turn):
        noted = [at for at, note in enumerate(self.notes) if note and note[0] == turn]
        if not noted:
            return None
        ways = [wants(house, turn[0]) for house in self.houses[noted[-1]:]]
        return self.notes[noted[-1]][1] if all(way == ways[0] for way in ways) else None

    def do(self, house, note):
        self.houses.append(house)
        self.notes.append(note)

    def undo(self):
        del self.houses[-1], self.notes[-1]

    def all_known(self):
        return {turn: self.known(turn) for turn in plain_turns(self.houses[-1])}


def seen(ledger):
    """All that a ledger tells of a house that has not too many turns."""
    turns = plain_turns(ledger.house())
    return ledger.house(), [(turn, ledger.known(turn)) for turn in turns], ledger.to_have()


def noted(house, *turns):
    """A ledger with these turns noted as good."""
    ledger = Ledger(house)
    for turn in turns:
        ledger.note(turn, "good")
    return ledger


class Checks(unittest.TestCase):
    def refused(self, ledger, error, function, *things):
        before = seen(ledger)
        self.assertRaises(error, function, *things)
        self.assertEqual(seen(ledger), before)

    def known(self, ledger, *turns):
        """Just these turns are known."""
        self.assertEqual([turn for turn in plain_turns(ledger.house()) if ledger.known(turn) is not None], list(turns))
        self.assertEqual(ledger.to_have(), [turn for turn in plain_turns(ledger.house()) if turn not in turns])


class NotesTest(Checks):
    def test_at_first_nothing_is_known(self):
        ledger = Ledger(PAIR)
        self.assertEqual(ledger.house(), PAIR)
        self.assertEqual([ledger.known(turn) for turn in ALL], [None] * 4)
        self.assertEqual(ledger.to_have(), ALL)
        self.assertEqual(Ledger(SMALLEST).to_have(), [])

    def test_noted_and_noted_anew(self):
        ledger = Ledger(PAIR)
        self.assertIsNone(ledger.note(TWO, "good"))
        self.assertEqual(ledger.known(TWO), "good")
        self.assertIsNone(ledger.known(TWO_MORE))
        self.assertEqual(ledger.to_have(), [ONE, ONE_MORE, TWO_MORE])
        ledger.note(TWO, "bad")
        self.assertEqual(ledger.known(TWO), "bad")
        ledger.note(TWO, "bad")
        self.assertEqual(ledger.known(TWO), "bad")
        ledger.note(ONE, "bad")
        self.assertEqual(ledger.to_have(), [ONE_MORE, TWO_MORE])
        for right in ("bad", "bad", "bad", "good"):
            self.assertEqual(ledger.known(TWO), right)
            ledger.undo()
        self.assertIsNone(ledger.known(TWO))
        self.assertRaises(NoDeed, ledger.undo)

    def test_words(self):
        ledger = noted(PAIR, ONE)
        for thing in ("Good", "good ", "missed", "left", "", "ok", ("good",), ["good"], {"good": "bad"}, 0, *STRANGE):
            with self.subTest(thing=repr(thing)[:300]):
                self.refused(ledger, NoWord, ledger.note, ONE, thing)
                self.refused(ledger, NoTurn, ledger.note, (0, (0,)), thing)
        ledger.undo()
        self.assertRaises(NoDeed, ledger.undo)

    def test_turns(self):
        ledger = noted(PAIR, ONE)
        for thing in ((0, (0,)), (2, ()), (0, (0, 1)), (0, [0, 0]), [0, (0, 0)], (False, (0, 0)), (0, (False, 0)),
                      (0,), ONE + (0,), *STRANGE):
            with self.subTest(thing=repr(thing)[:300]):
                self.refused(ledger, NoTurn, ledger.note, thing, "good")
                self.refused(ledger, NoTurn, ledger.note, thing, None)
                self.refused(ledger, NoTurn, ledger.known, thing)


class ChangeTest(Checks):
    def test_a_recipe_that_is_wanted_for_some(self):
        ledger = noted(PAIR, *ALL)
        self.assertIsNone(ledger.change(1, 2, 1, (0,)))
        self.assertEqual(ledger.house(), (PAIR[0], (PAIR[1][0], (1, (), 2, 1, (0,)), PAIR[1][2]), PAIR[2]))
        self.known(ledger, TWO, TWO_MORE)
        ledger.note(ONE, "bad")
        self.assertEqual(ledger.known(ONE), "bad")
        self.known(ledger, ONE, TWO, TWO_MORE)

    def test_a_recipe_that_is_wanted_for_all_and_for_none(self):
        ledger = noted(PAIR, *ALL)
        ledger.change(2, 0, 3, (0, 1))
        self.known(ledger, *ALL)
        ledger.change(0, 3, 3, ())
        self.known(ledger)
        ledger.undo()
        self.known(ledger, *ALL)

    def test_each_part(self):
        house = ((1,), at_house((), (), (0, 1), keeps=(3, 3, 1), sorts=(1, 1, 2)), (((0, 0), (2,), ()),))
        turn = (0, (0, 0, 0))
        for keep, sorts, needs in ((0, 2, (0, 1)), (1, 3, (0, 1)), (1, 1, (0, 1)), (1, 2, (1, 0))):
            ledger = noted(house, turn)
            self.assertEqual(ledger.would_lose(2, keep, sorts, needs), [turn])
            ledger.change(2, keep, sorts, needs)
            self.assertIsNone(ledger.known(turn))
        ledger = noted(house, turn)
        ledger.change(2, 1, 2, (0,))
        self.assertRaises(NoTurn, ledger.known, turn)
        self.assertIsNone(ledger.known((0, (0, 0))))

    def test_changed_back(self):
        ledger = noted(PAIR, *ALL)
        ledger.change(1, 2, 1, (0,))
        ledger.change(1, 3, 1, (0,))
        self.assertEqual(ledger.house(), PAIR)
        self.known(ledger, TWO, TWO_MORE)
        ledger.note(ONE, "good")
        self.known(ledger, ONE, TWO, TWO_MORE)
        for known in ((TWO, TWO_MORE), (TWO, TWO_MORE), ALL):
            ledger.undo()
            self.known(ledger, *known)

    def test_changed_to_what_it_was(self):
        ledger = noted(PAIR, *ALL)
        self.assertEqual(ledger.would_lose(0, 3, 2, ()), [])
        ledger.change(0, 3, 2, ())
        self.known(ledger, *ALL)
        # It was a deed all the same.
        ledger.undo()
        self.known(ledger, *ALL)
        ledger.undo()
        self.known(ledger, *ALL[:3])

    def test_wanted_no_longer(self):
        ledger = noted(PAIR, *ALL)
        ledger.change(1, 3, 1, ())
        self.assertRaises(NoTurn, ledger.known, ONE)
        self.known(ledger, TWO, TWO_MORE)
        ledger.note((0, (0,)), "bad")
        ledger.change(0, 3, 1, ())
        self.known(ledger, (0, (0,)))
        ledger.undo()
        ledger.undo()
        ledger.undo()
        self.known(ledger, *ALL)

    def test_in_another_order(self):
        # 2 wants 1 by way of 0, or of itself first.
        house = ((1,), at_house((), (), (0, 1)), (((0, 0), (2,), ()), ((0, 0), (0, 1), ()), ((0, 0), (1, 2), ())))
        ledger = noted(house, (0, (0, 0, 0)), (1, (0, 0)), (2, (0, 0, 0)))
        ledger.change(0, 3, 1, (1,))
        self.known(ledger)
        ledger.undo()
        ledger.change(2, 3, 1, (0,))
        self.known(ledger, (1, (0, 0)))

    def test_refused(self):
        ledger = noted(PAIR, ONE, TWO)
        for thing in (3, 8, -1, True, "0", None, (), [0], *STRANGE):
            with self.subTest(thing=repr(thing)[:300]):
                for function in (ledger.change, ledger.would_lose):
                    self.refused(ledger, NoRecipe, function, thing, 3, 1, ())
                    self.refused(ledger, NoRecipe, function, thing, 9, None, [])
        for parts in ((4, 1, ()), (-1, 1, ()), (True, 1, ()), (3, 0, ()), (3, 4, ()), (3, True, ()), (3, 1, (8,)),
                      (3, 1, (1, 1)), (3, 1, [0]),
                      (3, 1, (0, 1, 2, 3)), (3, 1, (True,)), (3, 1, None), (3, 1, "0"), (3, 1, {}), ([], 1, ()),
                      (3, {}, ()), (None, None, None)):
            for function in (ledger.change, ledger.would_lose):
                for number in range(3):
                    self.refused(ledger, NoHouse, function, number, *parts)
        for thing in STRANGE:
            self.refused(ledger, NoHouse, ledger.change, 0, thing, 1, ())
            self.refused(ledger, NoHouse, ledger.change, 0, 3, thing, ())
            self.refused(ledger, NoHouse, ledger.would_lose, 0, 3, 1, thing)
        # A lack, a short and a ring.
        for number, parts in ((0, (3, 1, (7,))), (0, (2, 2, ())), (1, (3, 1, (1,))), (0, (3, 2, (1,)))):
            for function in (ledger.change, ledger.would_lose):
                self.refused(ledger, NotSound, function, number, *parts)
        ledger.undo()
        self.known(ledger, ONE)
        ledger.undo()
        self.assertRaises(NoDeed, ledger.undo)


class PutOnTest(Checks):
    def test_a_need_is_found_nearer(self):
        ledger = noted(PAIR, *ALL)
        nearer = (0, (0, 1), 1, 3, ())
        self.assertIsNone(ledger.add_recipe(nearer))
        self.assertEqual(ledger.house(), (PAIR[0], (*PAIR[1], nearer), PAIR[2]))
        # The second tasting wants the new one; the first one's 1 is told at the house and finds 0 there.
        self.known(ledger, ONE, ONE_MORE)
        self.assertEqual(ledger.to_have(), [(1, (0,)), (1, (1,)), (1, (2,))])
        ledger.undo()
        self.known(ledger, *ALL)

    def test_a_need_of_a_recipe_is_found_nearer(self):
        house = ((1,), ((0, (), 3, 1, ()), (1, (0,), 2, 1, (0,))), (((0, 0), (1,), ()), ((0, 0), (0,), ())))
        ledger = noted(house, (0, (0, 0)), (1, (0,)))
        ledger.add_recipe((0, (0,), 2, 1, ()))
        self.known(ledger)
        ledger.undo()
        ledger.add_recipe((0, (0, 0), 2, 1, ()))
        self.known(ledger, (0, (0, 0)))

    def test_one_that_nobody_finds(self):
        ledger = noted(PAIR, *ALL)
        ledger.add_recipe((7, (0, 0), 0, 3, (1,)))
        self.known(ledger, *ALL)

    def test_a_tasting(self):
        ledger = noted(PAIR, *ALL)
        self.assertIsNone(ledger.add_tasting(((0, 0), (2,), ("hot",))))
        self.assertEqual(ledger.house(), (PAIR[0], PAIR[1], (*PAIR[2], ((0, 0), (2,), ("hot",)))))
        self.known(ledger, *ALL)
        self.assertEqual(ledger.to_have(), [(2, (0,))])
        ledger.note((2, (0,)), "good")
        ledger.undo()
        ledger.undo()
        self.assertRaises(NoTurn, ledger.known, (2, (0,)))
        self.assertEqual(ledger.house(), PAIR)

    def test_refused(self):
        ledger = noted(PAIR, ONE, TWO)
        for thing in ((0, (), 3, 1, ()), (8, (), 3, 1, ()), (7, (1,), 3, 1, ()), (7, (), 4, 1, ()), (7, (), 3, 0, ()),
                      (7, (), 3, 1, [0]),
                      (7, (), 3, 1), [7, (), 3, 1, ()], (7, [], 3, 1, ()), ((0, 0), (), ()), *STRANGE):
            with self.subTest(thing=repr(thing)[:300]):
                self.refused(ledger, NoHouse, ledger.add_recipe, thing)
        for thing in (((0,), (), ()), ((0, 2), (), ()), ((0, 0), (8,), ()), ((0, 0), (1, 1), ()),
                      ((0, 0), (), ("b", "a")), ((0, 0), (), ("A",)),
                      [(0, 0), (), ()], ((0, 0), [], ()), ((0, 0), (), []), ((0, 0), ()), (7, (), 3, 1, ()), *STRANGE):
            with self.subTest(thing=repr(thing)[:300]):
                self.refused(ledger, NoHouse, ledger.add_tasting, thing)
        for thing in ((7, (), 3, 1, (6,)), (7, (), 3, 1, (7,)), (7, (0,), 3, 1, (7, 0))):
            self.refused(ledger, NotSound, ledger.add_recipe, thing)
        self.refused(ledger, NotSound, ledger.add_recipe, (0, (0, 0), 1, 1, (7,)))
        self.refused(ledger, NotSound, ledger.add_tasting, ((0, 0), (5,), ()))
        ledger.undo()
        self.known(ledger, ONE)

    def test_a_short_and_a_ring_come_of_a_nearer_one(self):
        house = ((1,), ((0, (), 3, 1, ()), (1, (0,), 2, 1, (0,))), (((0, 0), (1,), ()),))
        ledger = noted(house, (0, (0, 0)))
        self.refused(ledger, NotSound, ledger.add_recipe, (0, (0,), 1, 1, ()))
        self.refused(ledger, NotSound, ledger.add_recipe, (0, (0,), 2, 1, (1,)))
        ledger.add_recipe((0, (0,), 2, 1, (0,)))
        self.assertEqual(ledger.to_have(), [(0, (0, 0, 0))])

    def test_full(self):
        house = ((1,), at_house(*[()] * 8), (((0, 0), (), ()),) * 6)
        ledger = noted(house, (0, ()))
        self.refused(ledger, NoHouse, ledger.add_recipe, (0, (0,), 3, 1, ()))
        self.refused(ledger, NoHouse, ledger.add_tasting, ((0, 0), (), ()))


class ManyTurnsTest(Checks):
    # Three tastings with 27 turns each.
    house = ((1,), at_house((), (), (0, 1), sorts=(3, 3, 3)), (((0, 0), (2,), ()),) * 3)

    def test_eighty_one_and_more(self):
        ledger = Ledger(self.house)
        self.assertEqual(many_turns(ledger.house()), 81)
        self.assertEqual(ledger.to_have(), plain_turns(ledger.house()))
        ledger.note((2, (0, 1, 2)), "bad")
        self.assertEqual(len(ledger.to_have()), 80)
        ledger.add_tasting(((0, 0), (), ()))
        self.assertEqual(many_turns(ledger.house()), 82)
        self.assertRaises(TooMany, ledger.to_have)
        self.assertEqual(ledger.known((2, (0, 1, 2))), "bad")
        self.assertEqual(ledger.would_lose(0, 3, 2, ()), [(2, (0, 1, 2))])
        ledger.undo()
        self.assertEqual(len(ledger.to_have()), 80)

    def test_more_of_one_tasting(self):
        house = ((1,), at_house((), (), (), (), (0, 1, 2), sorts=(3, 3, 3, 3, 2)), (((0, 0), (4, 3), ()),))
        ledger = Ledger(house)
        self.assertRaises(TooMany, ledger.to_have)
        turn = (0, (0, 1, 2, 1, 2))
        ledger.note(turn, "good")
        self.assertEqual(ledger.known(turn), "good")
        ledger.change(4, 3, 1, ())
        self.assertEqual(many_turns(ledger.house()), 3)
        self.assertEqual(ledger.to_have(), [(0, (0, 0)), (0, (0, 1)), (0, (0, 2))])


class AnyDeedsTest(Checks):
    """Deeds by chance, against the words of [101] and [102] looked for anew in all deeds."""

    def test_made_houses(self):
        chance = random.Random(101)
        met = {}
        for number in range(60):
            house = made_busy_house(chance) if number % 2 else made_sound_house(chance)
            ledger, plain = Ledger(house), PlainLedger(house)
            for step in range(25):
                word = self.one_deed(chance, ledger, plain)
                met[word] = met.get(word, 0) + 1
                self.assertEqual(ledger.house(), plain.houses[-1])
                right = plain.all_known()
                for turn in chance.sample(sorted(right), min(len(right), 60)):
                    self.assertEqual(ledger.known(turn), right[turn])
                if len(right) > 81:
                    self.assertRaises(TooMany, ledger.to_have)
                else:
                    self.assertEqual(ledger.to_have(), [turn for turn in sorted(right) if right[turn] is None])
        self.assertTrue(set(met) >= {"undone", "no deed", "noted", "changed", "lost", "put on", "NoHouse", "NotSound"},
                        met)

    def one_deed(self, chance, ledger, plain):
        house, way = ledger.house(), chance.random()
        tables, recipes, tastings = house
        if way < 0.2:
            if len(plain.houses) == 1:
                self.assertRaises(NoDeed, ledger.undo)
                return "no deed"
            ledger.undo()
            plain.undo()
            return "undone"
        turns = plain_turns(house)
        if way < 0.6 and turns:
            turn, word = chance.choice(turns), chance.choice(("good", "bad"))
            ledger.note(turn, word)
            plain.do(house, (turn, word))
            return "noted"
        needs = tuple(chance.choices(range(8), k=chance.choice((0, 0, 1, 1, 2))))
        if way < 0.85 and recipes:
            return self.change(chance, ledger, plain, chance.randrange(len(recipes)), needs)
        if chance.random() < 0.5:
            new = (chance.randint(0, 8), chance.choice(spots_of(house)), chance.randint(0, 3), chance.randint(1, 3),
                   needs)
            return self.put(ledger.add_recipe, new, (tables, (*recipes, new), tastings), plain, "put on")
        new = (chance.choice(spots_of(house)), needs, ())
        return self.put(ledger.add_tasting, new, (tables, recipes, (*tastings, new)), plain, "put on")

    def change(self, chance, ledger, plain, number, needs):
        tables, recipes, tastings = ledger.house()
        name, spot, keep, sorts, old = recipes[number]
        parts = chance.choice(((chance.randint(0, 4), sorts, old), (keep, chance.randint(0, 3), old),
                               (keep, sorts, needs), (keep, sorts, old)))
        after = (tables, (*recipes[:number], (name, spot, *parts), *recipes[number + 1:]), tastings)
        before = plain.all_known()
        try:
            lost = ledger.would_lose(number, *parts)
        except TasteError as refusal:
            lost = type(refusal)
        told = self.put(lambda all_parts: ledger.change(number, *all_parts), parts, after, plain, "changed")
        if told != "changed":
            self.assertEqual(lost.__name__, told)
            return told
        # Just what would be lost is lost; the others are turns still, and known as they were.
        now = plain.all_known()
        self.assertEqual(lost, sorted(turn for turn in before if before[turn] is not None and now.get(turn) is None))
        self.assertEqual(lost, sorted(set(lost)))
        return "lost" if lost else "changed"

    def put(self, deed, thing, after, plain, word):
        if not is_house(after):
            self.assertRaises(NoHouse, deed, thing)
            return "NoHouse"
        if plain_fault(after) is not None:
            self.assertRaises(NotSound, deed, thing)
            return "NotSound"
        deed(thing)
        plain.do(after, None)
        return word

    def test_all_undone_one_behind_the_other(self):
        ledger = Ledger(PAIR)
        deeds = [(ledger.note, ONE, "good"), (ledger.change, 0, 3, 1, ()), (ledger.note, (0, (0, 0)), "bad"),
                 (ledger.add_recipe, (6, (), 0, 1, ())),
                 (ledger.add_tasting, ((0, 1), (6,), ())), (ledger.note, (2, (0,)), "good"),
                 (ledger.change, 3, 1, 2, (0, 1)),
                 (ledger.note, (2, (0, 0, 1)), "good"), (ledger.change, 3, 1, 2, (0, 1)),
                 (ledger.note, (1, (0,)), "good")]
        steps = []
        for deed, *things in deeds:
            steps.append(seen(ledger))
            self.assertIsNone(deed(*things))
        for step in reversed(steps):
            self.assertIsNone(ledger.undo())
            self.assertEqual(seen(ledger), step)
        self.assertRaises(NoDeed, ledger.undo)

    def test_had_again_just_where_something_that_it_wants_was_changed(self):
        turns = [(0, (0, 0, 0, 0)), (1, (1, 0, 1, 1)), (2, (0, 0, 0)), (3, (2,)), (4, ())]
        for number, (name, spot, keep, sorts, needs) in enumerate(KITCHEN[1]):
            ledger = Ledger(KITCHEN)
            for turn in turns:
                ledger.note(turn, "good")
            lost = [turn for turn in turns if number in plain_wanted(KITCHEN, plain_needs(KITCHEN, turn[0]))]
            self.assertEqual(ledger.would_lose(number, keep, sorts % 3 + 1, needs), lost)
            ledger.change(number, keep, sorts % 3 + 1, needs)
            self.assertEqual([turn for turn in turns if turn not in lost],
                             [turn for turn in turns if self.is_known(ledger, turn)])

    def is_known(self, ledger, turn):
        try:
            return ledger.known(turn) is not None
        except NoTurn:
            return False


class ApartTest(Checks):
    def test_unsound_houses(self):
        for house in UNSOUND:
            self.assertRaises(NotSound, Ledger, house)

    def test_told_lists_are_the_askers_own(self):
        ledger = noted(PAIR, ONE, TWO)
        told = ledger.to_have()
        told.clear()
        self.assertEqual(ledger.to_have(), [ONE_MORE, TWO_MORE])
        told = ledger.would_lose(0, 3, 3, ())
        self.assertEqual(told, [ONE, TWO])
        told.append(0)
        self.assertEqual(ledger.would_lose(0, 3, 3, ()), [ONE, TWO])
        self.known(ledger, ONE, TWO)

    def test_what_would_be_lost_is_not(self):
        ledger = noted(PAIR, *ALL)
        before = seen(ledger)
        self.assertEqual(ledger.would_lose(1, 2, 1, ()), [ONE, ONE_MORE])
        self.assertEqual(ledger.would_lose(2, 2, 1, ()), [])
        self.assertEqual(seen(ledger), before)
        ledger.undo()
        self.known(ledger, *ALL[:3])

    def test_rising_whatever_was_noted_first(self):
        ledger = noted(PAIR, *ALL[::-1])
        self.assertEqual(ledger.would_lose(0, 3, 3, ()), ALL)

    def test_two_ledgers(self):
        one, other = Ledger(PAIR), Ledger(PAIR)
        one.note(ONE, "good")
        self.known(other)
        self.assertRaises(NoDeed, other.undo)
        other.change(0, 3, 3, ())
        self.known(one, ONE)
        self.assertEqual(one.house(), PAIR)
        other.undo()
        self.known(one, ONE)

    def test_nothing_handed_in_is_changed_and_the_same_answer_again(self):
        house, turn = copy.deepcopy((SOUND, (1, (0, 0, 0, 1))))
        ledger = noted(house, turn)
        self.assertEqual(ledger.known(turn), ledger.known(turn))
        ledger.change(0, 3, 1, ())
        self.assertEqual((house, turn), (SOUND, (1, (0, 0, 0, 1))))
        before = seen(ledger)
        for thing in ([0, [1]], {"a": [0]}, ([0],), [7, (), 3, 1, ()], (7, (), 3, 1, [])):
            same = copy.deepcopy(thing)
            self.refused(ledger, NoTurn, ledger.note, thing, "good")
            self.refused(ledger, NoWord, ledger.note, (2, ()), thing)
            self.refused(ledger, NoHouse, ledger.change, 0, 3, 1, thing)
            self.refused(ledger, NoHouse, ledger.add_recipe, thing)
            self.refused(ledger, NoHouse, ledger.add_tasting, thing)
            self.assertEqual(thing, same)
        self.assertEqual(seen(ledger), before)
        self.assertRaises(NotSound, Ledger, FULLEST)


if __name__ == "__main__":
    unittest.main()
