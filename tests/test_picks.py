"""[3], [4], [5], [81], [82], [83]: picks, their texts, and what parts two of them."""

import copy
import itertools
import random
import unittest

from plain import made_worded_house, plain_needs, plain_wanted, spots_of
from plain_picks import deep, ends, loose_text, made_pick, plain_picks, plain_read, without_each_bracket
from samples import SMALLEST, SOUND, STRANGE, UNSOUND, nested
from tastehouse.errors import NoPick, NoText, NotSound
from tastehouse.picks import is_pick, parting, pick_alike, pick_read, pick_text, picked

HOT, SWEET, COLD = ("word", "hot"), ("word", "sweet"), ("word", "cold")
A, B, C = ("word", "a"), ("word", "b"), ("word", "c")

# One place otherwise in a pick of each kind.
NO_PICKS = (
    (), ("word",), ("word", "hot", "sweet"), ("Word", "hot"), ("", "hot"), (None, "hot"), (0, "hot"), (["word"], "hot"),
    ({}, "hot"), (("word",), "hot"), "word", "hot", ["word", "hot"], {"word": "hot"}, ("word", ""),
    ("word", "abcdefghi"),
    ("word", "Hot"), ("word", "h t"), ("word", "hot "), ("word", "h0t"), ("word", "hot\n"), ("word", None), ("word", 0),
    ("word", ("hot",)), ("word", ["h"]), ("word", HOT), ("hot", "word"), (HOT,), (HOT, HOT), ("word", "@"),
    ("at", None), ("at", 0), ("at", [0]), ("at", []), ("at", [0, 1]), ("at", (2,)), ("at", (0, 2)), ("at", (1, 1)),
    ("at", (0, 0, 0)), ("at", (-1,)), ("at", (0, -1)), ("at", (True,)), ("at", (0, True)), ("at", (False,)),
    ("at", "@"),
    ("at", {}), ("at", (None,)), ("at",), ("at", 0, 1), ("at", (0,), (1,)), ("at", ("0",)), ("at", ((),)),
    ("at", "hot"),
    ("wants", 8), ("wants", -1), ("wants", True), ("wants", False), ("wants", None), ("wants", "3"), ("wants", (3,)),
    ("wants", 10 ** 39), ("wants",), ("wants", 1, 2), ("wants", [3]), ("want", 3), ("wants", "hot"),
    ("not",), ("not", HOT, HOT), ("not", "hot"), ("not", None), ("not", ()), ("not", [HOT]), ("not", ["word", "hot"]),
    ["not", HOT], ("not", ("wants", 8)), ("not", ("not", ("word", ""))), ("not", True), ("no", HOT), ("!", HOT),
    ("not", (HOT,)),
    ("and",), ("and", HOT), ("and", HOT, HOT, HOT), ("and", HOT, "hot"), ("and", "hot", HOT), ("and", HOT, None),
    ["and", HOT, HOT], ("and", [HOT], HOT), ("and", (HOT, HOT)), ("&", HOT, HOT), ("and", HOT, ["word", "hot"]),
    ("and", ("at", (9,)), HOT), ("and", HOT, ("at", (9,))), ("or",), ("or", HOT), ("or", HOT, HOT, HOT), ("or", HOT, 0),
    ("or", (), HOT), ["or", HOT, HOT], ("or", HOT, ("wants", True)), ("or", ("not", ("word", "A")), HOT),
    ("xor", HOT, HOT),
    ("AND", HOT, HOT), ("or", {}, HOT), (("or",), HOT, HOT), (["or"], HOT, HOT), ("or", HOT, HOT, ()),
    ("and", "or", "not"),
)


def chain(kind, many, end=HOT):
    """A pick of so many levels."""
    pick = end
    for level in range(many - 1):
        pick = ("not", pick) if kind == "not" else (kind, pick, end) if kind == "and" else (kind, end, pick)
    return pick


def full(kinds, levels, words):
    """A pick that has all that so many levels can hold."""
    if levels == 1:
        return ("word", next(words))
    return (kinds[levels % len(kinds)], full(kinds, levels - 1, words), full(kinds, levels - 1, words))


def ends_let(house, chance):
    words = [("word", word) for word in ("a", "b", "hot", "sweet", "zzzzzzzz", "not", "at")]
    return words + [("at", spot) for spot in spots_of(house)] + [("wants", name) for name in range(8)]


def plain_picked(house, pick):
    told = []
    for number, (spot, needs, words) in enumerate(house[2]):
        names = [house[1][recipe][0] for recipe in plain_wanted(house, plain_needs(house, number))]
        if plain_picks(pick, words, spot, names):
            told.append(number)
    return told


class IsPickTest(unittest.TestCase):
    def test_each_kind(self):
        for pick in (HOT, ("word", "a"), ("word", "abcdefgh"), ("word", "word"), ("at", ()), ("at", (0,)), ("at", (1,)),
                     ("at", (0, 1)), ("at", (1, 0)), ("wants", 0), ("wants", 7), ("wants", 4), ("not", HOT),
                     ("and", HOT, ("at", ())), ("or", ("wants", 3), ("not", ("not", HOT))),
                     ("and", ("or", HOT, HOT), HOT)):
            with self.subTest(pick):
                self.assertIs(is_pick(SOUND, pick), True)

    def test_a_house_without_anything(self):
        for pick in (HOT, ("at", ()), ("at", (0,)), ("at", (0, 0)), ("wants", 7)):
            self.assertIs(is_pick(SMALLEST, pick), True)
        for pick in (("at", (1,)), ("at", (0, 1))):
            self.assertIs(is_pick(SMALLEST, pick), False)

    def test_levels(self):
        for kind in ("not", "and", "or"):
            for many, right in ((1, True), (2, True), (11, True), (12, True), (13, False), (14, False), (30, False)):
                with self.subTest(kind=kind, many=many):
                    self.assertIs(is_pick(SOUND, chain(kind, many)), right)
                    self.assertIs(is_pick(SOUND, ("or", HOT, chain(kind, many))), right and many < 12)
        self.assertIs(is_pick(SOUND, full(("and", "or"), 12, itertools.cycle(["hot"]))), True)
        self.assertIs(is_pick(SOUND, full(("and", "or"), 13, itertools.cycle(["hot"]))), False)

    def test_one_place_otherwise_and_other_kinds(self):
        for thing in (*NO_PICKS, *STRANGE):
            with self.subTest(thing=repr(thing)[:300]):
                self.assertIs(is_pick(SOUND, thing), False)
                self.assertIs(is_pick(SOUND, ("not", thing)), False)
                self.assertIs(is_pick(SOUND, ("and", HOT, thing)), False)
                self.assertIs(is_pick(SOUND, ("or", thing, HOT)), False)

    def test_deep_things_of_other_kinds(self):
        for thing in (nested(tuple, 30), nested(list, 30), ("not", nested(tuple, 29)), ("and", [HOT], nested(dict, 29)),
                      chain("not", 29, []), ("word",) * 8999, ("and", *[HOT] * 2999)):
            self.assertIs(is_pick(SOUND, thing), False)


class PickedTest(unittest.TestCase):
    """The tastings of the sample: 0 at (0, 0), hot; 1 at (0, 1), hot and sweet; 2 and 3 at (1, 0), the last one cold."""

    def told(self, pick, right):
        self.assertEqual(picked(SOUND, pick), right)
        self.assertIsInstance(picked(SOUND, pick), list)

    def test_words(self):
        self.told(HOT, [0, 1])
        self.told(SWEET, [1])
        self.told(COLD, [3])
        self.told(("word", "ho"), [])
        self.told(("word", "hots"), [])

    def test_spots(self):
        self.told(("at", ()), [0, 1, 2, 3])
        self.told(("at", (0,)), [0, 1])
        self.told(("at", (1,)), [2, 3])
        self.told(("at", (0, 0)), [0])
        self.told(("at", (0, 1)), [1])
        self.told(("at", (1, 0)), [2, 3])

    def test_names(self):
        # Name 0 is wanted for tasting 0 only by what is cooked of it; at table (0, 1) a nearer one is needed.
        self.told(("wants", 0), [0, 1, 3])
        self.told(("wants", 1), [0, 3])
        self.told(("wants", 2), [0])
        self.told(("wants", 3), [0])
        self.told(("wants", 4), [])
        self.told(("wants", 5), [1])
        self.told(("wants", 6), [1])
        self.told(("wants", 7), [3])

    def test_not_and_or(self):
        self.told(("not", HOT), [2, 3])
        self.told(("not", ("not", HOT)), [0, 1])
        self.told(("and", HOT, SWEET), [1])
        self.told(("and", HOT, COLD), [])
        self.told(("or", SWEET, COLD), [1, 3])
        self.told(("or", COLD, SWEET), [1, 3])
        self.told(("and", ("not", SWEET), ("or", HOT, ("at", (1,)))), [0, 2, 3])

    def test_no_tastings(self):
        for pick in (HOT, ("not", HOT), ("at", ()), ("wants", 0)):
            self.assertEqual(picked(SMALLEST, pick), [])

    def test_made_houses(self):
        chance = random.Random(81)
        for number in range(150):
            house = made_worded_house(chance)
            let = ends_let(house, chance)
            for pick in [made_pick(chance, let, chance.randint(1, 7)) for each in range(8)] + let:
                self.assertIs(is_pick(house, pick), True)
                self.assertEqual(picked(house, pick), plain_picked(house, pick), (house, pick))

    def test_all_that_twelve_levels_hold(self):
        pick = full(("and", "or"), 12, itertools.cycle(["hot", "sweet", "cold", "hot", "a"]))
        self.told(pick, plain_picked(SOUND, pick))


class WrittenTest(unittest.TestCase):
    pairs = (
        (HOT, "hot"), (("at", ()), "@"), (("at", (1,)), "@1"), (("at", (0, 1)), "@0.1"), (("wants", 0), "#0"),
        (("wants", 7), "#7"), (("not", HOT), "!hot"), (("not", ("not", ("at", ()))), "!!@"), (("and", A, B), "a & b"),
        (("or", A, B), "a | b"), (("not", ("and", A, B)), "!(a & b)"), (("not", ("or", A, B)), "!(a | b)"),
        (("and", ("and", A, B), C), "a & b & c"), (("and", A, ("and", B, C)), "a & (b & c)"),
        (("or", ("or", A, B), C), "a | b | c"), (("or", A, ("or", B, C)), "a | (b | c)"),
        (("or", ("and", A, B), C), "a & b | c"), (("or", A, ("and", B, C)), "a | b & c"),
        (("and", ("or", A, B), C), "(a | b) & c"), (("and", A, ("or", B, C)), "a & (b | c)"),
        (("and", ("not", A), ("not", B)), "!a & !b"), (("not", ("and", ("not", A), B)), "!(!a & b)"),
        (("or", ("and", A, B), ("and", B, C)), "a & b | b & c"),
        (("and", ("or", A, B), ("or", B, C)), "(a | b) & (b | c)"),
        (("not", ("not", ("or", A, B))), "!!(a | b)"),
        (("or", ("and", HOT, ("not", ("or", SWEET, ("at", (0, 1))))), ("wants", 3)), "hot & !(sweet | @0.1) | #3"),
    )

    def test_by_hand(self):
        for pick, text in self.pairs:
            with self.subTest(text):
                self.assertEqual(pick_text(SOUND, pick), text)
                self.assertEqual(pick_read(SOUND, text), pick)

    def test_written_and_read_again_with_brackets_just_where_they_are_told(self):
        chance = random.Random(82)
        for number in range(300):
            house = made_worded_house(chance) if number % 10 == 0 else SOUND
            pick = made_pick(chance, ends_let(house, chance), chance.randint(1, 8))
            text = pick_text(house, pick)
            self.assertEqual(pick_read(house, text), pick, text)
            self.assertEqual(plain_read(house, text), pick, text)
            self.assertNotIn("  ", text)
            # Brackets round a whole that needs none are not told: without any pair another pick is read, or none.
            for less in without_each_bracket(text)[:6]:
                self.assertNotEqual(plain_read(house, less), pick, (text, less))

    def test_twelve_levels(self):
        for pick in (chain("not", 12), chain("and", 12), chain("or", 12),
                     full(("and", "or"), 12, itertools.cycle("ab"))):
            text = pick_text(SOUND, pick)
            self.assertEqual(deep(pick), 12)
            # Told, so it may be handed in again, be it longer than two thousand signs.
            self.assertEqual(pick_read(SOUND, text), pick)
        self.assertEqual(pick_text(SOUND, chain("not", 12)), "!" * 11 + "hot")
        self.assertEqual(pick_text(SOUND, chain("and", 12)), " & ".join(["hot"] * 12))
        self.assertEqual(pick_text(SOUND, chain("or", 12)), "hot | (" * 10 + "hot | hot" + ")" * 10)


class ReadTest(unittest.TestCase):
    def no_text(self, house, *texts):
        for text in texts:
            with self.subTest(text=repr(text)[:300]):
                self.assertRaises(NoText, pick_read, house, text)

    def test_blanks_and_brackets_more(self):
        for text, pick in (
            ("a&b", ("and", A, B)), ("  a  &  b  ", ("and", A, B)), ("(a)", A), ("((a))", A), (" ( ( a ) ) ", A),
            ("(a&b)&c", ("and", ("and", A, B), C)), ("(a)&(b)", ("and", A, B)), ("((a)&(b))", ("and", A, B)),
            ("! a", ("not", A)), ("! ! a", ("not", ("not", A))), ("!(a)", ("not", A)), ("!(!(a))", ("not", ("not", A))),
            ("!a&b", ("and", ("not", A), B)), ("a|b&c", ("or", A, ("and", B, C))), ("a&b|c", ("or", ("and", A, B), C)),
            ("a|b|c&a", ("or", ("or", A, B), ("and", C, A))), ("@|@0", ("or", ("at", ()), ("at", (0,)))),
            ("@0.1&#3", ("and", ("at", (0, 1)), ("wants", 3))), ("(@)", ("at", ())), (" #7 ", ("wants", 7)),
            ("a|(b|c)", ("or", A, ("or", B, C))), ("a & ( b & c )", ("and", A, ("and", B, C))),
            ("(a|b)|c", ("or", ("or", A, B), C)),
        ):
            with self.subTest(text):
                self.assertEqual(pick_read(SOUND, text), pick)

    def test_each_sign_of_a_word(self):
        for word in ("abcdefgh", "ijklmnop", "qrstuvwx", "yz", *"abcdefghijklmnopqrstuvwxyz"):
            self.assertEqual(pick_read(SOUND, word), ("word", word))
            self.assertEqual(pick_read(SOUND, f"!{word}|@"), ("or", ("not", ("word", word)), ("at", ())))

    def test_what_writes_none(self):
        self.no_text(
            SOUND, "", " ", "     ", "a b", "a  b", "hot sweet", "&", "|", "!", "(", ")", "()", "( )", "a&", "&a",
            "a|", "|a",
            "a&&b", "a||b", "a&|b", "a!", "a!b", "a!&b", "a & ! & b", "(a", "a)", "((a)", "(a))", ")a(", "a(b)",
            "(a)b", "(a)(b)", "a()",
            "()a", "!()", "a&()", "@ 0", "@0 .1", "@0. 1", "@0.", "@.", "@.1", "@0.1.", "@0.1.0", "@00", "@01",
            "@0.01", "@0.00",
            "@-1", "@0-1", "@+0", "@2", "@3", "@0.2", "@1.1", "@10", "@a", "@0a", "a@0", "@@", "@0@1", "@0,1", "#",
            "# 3", "#8",
            "#9", "#10", "#00", "#03", "#-1", "#+1", "#a", "#3a", "a#3", "##3", "#3#3", "#3.0", "3", "0", "a3", "3a",
            "A", "Hot", "hoT",
            "abcdefghi", "a_b", "a-b", "a.b", "a,b", "'a'", "\"a\"", "a\n", "\na", "a\n&b", "a\t&\tb", "\ta", "a\r",
            "a &\nb", "a\x0b", "[a]", "{a}",
            "a and b", "not a", "~a", "a^b", "a+b", "a=b", "(a]", "a;", "\x00", "@\n", "#3\n", "#" + "9" * 40,
            "@" + "0" * 100, "@" + "1" * 1999,
            "a" * 2000, "#" + "3" * 1999, "(" * 30, ")" * 30, "!" * 30, "()" * 15, "(" * 30 + ")" * 30,
        )

    def test_thirteen_levels(self):
        for kind in ("not", "and"):
            text = {"not": "!" * 11 + "a", "and": "&".join("a" * 12)}[kind]
            self.assertEqual(deep(pick_read(SOUND, text)), 12)
            self.no_text(SOUND, {"not": "!" + text, "and": text + "&a"}[kind])
        self.assertEqual(pick_read(SOUND, "a|(" * 10 + "a|a" + ")" * 10), chain("or", 12, A))
        self.no_text(SOUND, "a|(" * 11 + "a|a" + ")" * 11, "!" * 30 + "a", "|".join("a" * 1000), "&".join("ab" * 500))

    def test_at_the_bounds(self):
        self.assertEqual(pick_read(SOUND, "(" * 30 + "hot" + ")" * 30), HOT)
        self.assertEqual(pick_read(SOUND, "(" * 19 + "!" * 11 + "hot" + ")" * 19), chain("not", 12))
        self.assertEqual(pick_read(SOUND, "!(" * 11 + "(" * 8 + "hot" + ")" * 19), chain("not", 12))
        self.assertEqual(pick_read(SOUND, " " * 1997 + "hot"), HOT)
        self.assertEqual(pick_read(SOUND, "hot" + " " * 1997), HOT)
        text = "(" * 29 + "hot" + " " * 1900 + "&" + "sweet" + ")" * 29
        self.assertEqual(pick_read(SOUND, text), ("and", HOT, SWEET))
        self.no_text(SOUND, "(" * 30 + "hot" + ")" * 29, "(" * 29 + "hot" + ")" * 30, " " * 2000)

    def test_other_kinds(self):
        self.no_text(SOUND, *[thing for thing in STRANGE if thing != "house"], b"hot", ["hot"], ("hot",), {"hot": 1},
                     HOT, 3)
        self.assertEqual(pick_read(SOUND, "house"), ("word", "house"))

    def test_spots_and_names_that_the_house_has_not(self):
        self.assertEqual(pick_read(SMALLEST, "@0.0"), ("at", (0, 0)))
        self.assertEqual(pick_read(SMALLEST, "#7"), ("wants", 7))
        self.no_text(SMALLEST, "@1", "@0.1", "@1.0", "#8", "a & @1", "!(a | @0.1)", "a | #8")
        self.assertEqual(pick_read(SOUND, "@1.0 & @0.1"), ("and", ("at", (1, 0)), ("at", (0, 1))))

    def test_loose_texts(self):
        chance = random.Random(83)
        for number in range(400):
            pick = made_pick(chance, ends_let(SOUND, chance), chance.randint(1, 7))
            text = loose_text(chance, pick)
            self.assertEqual(pick_read(SOUND, text), pick, text)
            self.assertEqual(pick_text(SOUND, pick_read(SOUND, text)), pick_text(SOUND, pick))

    def test_one_sign_more_less_or_otherwise(self):
        chance = random.Random(84)
        read = {True: 0, False: 0}
        for number in range(2500):
            pick = made_pick(chance, ends_let(SOUND, chance), chance.randint(1, 4))
            text = pick_text(SOUND, pick) if chance.random() < 0.5 else loose_text(chance, pick)
            at, sign = chance.randint(0, len(text)), chance.choice("a!&|()@#.01238 \n\tA")
            text = text[:at] + chance.choice(("", sign)) + text[at + chance.randint(0, 1):]
            right = plain_read(SOUND, text)
            read[right is None] += 1
            if right is None:
                self.no_text(SOUND, text)
            else:
                self.assertEqual(pick_read(SOUND, text), right, text)
        self.assertGreater(min(read.values()), 500)


class AlikeTest(unittest.TestCase):
    def test_by_hand(self):
        for one, other, right in (
            (HOT, HOT, True), (HOT, SWEET, False), (SWEET, ("at", (0, 1)), True), (("wants", 7), COLD, True),
            (("not", HOT), ("at", (1,)), True), (("word", "a"), ("word", "b"), True), (("at", ()), ("not", A), True),
            (("and", HOT, SWEET), SWEET, True), (("or", HOT, SWEET), HOT, True), (("or", HOT, COLD), HOT, False),
            (("at", (1,)), ("at", (1, 0)), True), (("at", (0,)), ("at", (0, 0)), False),
        ):
            with self.subTest(one=one, other=other):
                self.assertIs(pick_alike(SOUND, one, other), right)
                self.assertIs(pick_alike(SOUND, other, one), right)

    def test_without_tastings_all_are_alike(self):
        self.assertIs(pick_alike(SMALLEST, HOT, ("not", HOT)), True)

    def test_made_houses(self):
        chance = random.Random(85)
        met = set()
        for number in range(150):
            house = made_worded_house(chance)
            one, other = [made_pick(chance, ends_let(house, chance), 4) for each in range(2)]
            right = plain_picked(house, one) == plain_picked(house, other)
            met.add(right)
            self.assertIs(pick_alike(house, one, other), right)
        self.assertEqual(met, {True, False})


def plain_parting(one, other):
    words = sorted({end[1] for end in ends(one) + ends(other)})
    for many in range(len(words) + 1):
        # These come as tuples compare.
        for choice in itertools.combinations(words, many):
            if plain_picks(one, choice) != plain_picks(other, choice):
                return choice
    return None


EIGHT = [("word", word) for word in "abcdefgh"]


def joined(kind, picks):
    """All of them joined, in few levels."""
    while len(picks) > 1:
        picks = [(kind, *picks[at:at + 2]) if at + 1 < len(picks) else picks[at] for at in range(0, len(picks), 2)]
    return picks[0]


class PartingTest(unittest.TestCase):
    def test_by_hand(self):
        for one, other, right in (
            (A, A, None), (A, B, ("a",)), (B, A, ("a",)), (A, ("not", A), ()), (A, ("not", ("not", A)), None),
            (("and", A, B), A, ("a",)), (("and", A, B), B, ("b",)), (("or", A, B), A, ("b",)),
            (("and", A, B), ("or", A, B), ("a",)),
            (("and", A, B), ("and", B, A), None),
            (("and", A, ("or", B, C)), ("or", ("and", A, B), ("and", A, C)), None),
            (("not", ("and", A, B)), ("or", ("not", A), ("not", B)), None),
            (("or", A, ("not", A)), ("or", B, ("not", B)), None),
            (("and", ("and", A, B), C), ("and", A, B), ("a", "b")),
            (("and", C, ("and", A, B)), ("and", C, B), ("b", "c")), (("and", A, C), ("and", A, B), ("a", "b")),
            (("and", ("and", A, B), C), ("and", A, ("not", A)), ("a", "b", "c")),
            (("word", "b"), ("word", "ab"), ("ab",)), (HOT, ("and", HOT, SWEET), ("hot",)),
            (("or", HOT, ("not", SWEET)), ("not", SWEET), ("hot", "sweet")),
        ):
            with self.subTest(one=one, other=other):
                self.assertEqual(parting(one, other), right)
                self.assertEqual(parting(other, one), right)
                self.assertEqual(plain_parting(one, other), right)

    def test_more_words_than_a_tasting_may_have(self):
        none = ("and", A, ("not", A))
        self.assertEqual(parting(joined("and", EIGHT), none), tuple("abcdefgh"))
        self.assertEqual(parting(none, joined("and", EIGHT[:5])), tuple("abcde"))
        self.assertIsNone(parting(joined("and", EIGHT), joined("and", EIGHT[::-1])))

    def test_eight_words_together_and_nine(self):
        nine = ("word", "i")
        self.assertEqual(parting(joined("or", EIGHT), joined("or", EIGHT[1:])), ("a",))
        self.assertEqual(parting(joined("or", EIGHT[:4]), joined("or", EIGHT[4:])), ("a",))
        self.assertEqual(parting(joined("or", EIGHT[1:]), nine), ("b",))
        for one, other in ((joined("or", EIGHT), nine), (nine, joined("or", EIGHT)), (joined("and", [*EIGHT, nine]), A),
                           (A, joined("and", [*EIGHT, nine])),
                           (joined("or", EIGHT[:5]), joined("or", [*EIGHT[5:], nine]))):
            self.assertRaises(NoPick, parting, one, other)

    def test_levels(self):
        for kind in ("not", "and", "or"):
            self.assertEqual(parting(chain(kind, 12), chain(kind, 12)), None)
            self.assertRaises(NoPick, parting, chain(kind, 13), HOT)
            self.assertRaises(NoPick, parting, HOT, chain(kind, 13))
        one = full(("and", "or"), 12, itertools.cycle("abcdefgh"))
        other = full(("or", "and"), 12, itertools.cycle("hgfa"))
        self.assertEqual(parting(one, other), plain_parting(one, other))

    def test_spots_names_and_what_is_no_pick(self):
        for thing in (("at", ()), ("at", (0, 0)), ("wants", 0), ("not", ("at", ())), ("and", HOT, ("wants", 3)),
                      ("or", ("at", (0,)), HOT),
                      *NO_PICKS, *STRANGE):
            with self.subTest(thing=repr(thing)[:300]):
                self.assertRaises(NoPick, parting, thing, HOT)
                self.assertRaises(NoPick, parting, HOT, thing)
                self.assertRaises(NoPick, parting, thing, thing)

    def test_made_picks(self):
        chance = random.Random(86)
        met = set()
        for number in range(600):
            words = EIGHT[:chance.randint(1, 8)]
            one, other = [made_pick(chance, words, chance.randint(1, 5)) for each in range(2)]
            right = plain_parting(one, other)
            met.add(None if right is None else len(right))
            self.assertEqual(parting(one, other), right, (one, other))
            self.assertEqual(parting(other, one), right)
        self.assertTrue(met >= {None, 0, 1, 2})


class RefusalsTest(unittest.TestCase):
    def test_picks(self):
        for thing in (*NO_PICKS, *STRANGE, chain("not", 13), chain("and", 13)):
            with self.subTest(thing=repr(thing)[:300]):
                self.assertRaises(NoPick, picked, SOUND, thing)
                self.assertRaises(NoPick, pick_text, SOUND, thing)
                self.assertRaises(NoPick, pick_alike, SOUND, thing, HOT)
                self.assertRaises(NoPick, pick_alike, SOUND, HOT, thing)
                self.assertRaises(NoPick, pick_alike, SOUND, thing, thing)

    def test_an_unsound_house_ahead_of_all(self):
        for house in UNSOUND:
            for thing in (HOT, None, [], ("at", (9,)), "", "hot", chain("not", 13)):
                for function in (is_pick, picked, pick_text, pick_read):
                    self.assertRaises(NotSound, function, house, thing)
                self.assertRaises(NotSound, pick_alike, house, thing, HOT)
                self.assertRaises(NotSound, pick_alike, house, HOT, thing)


class ApartTest(unittest.TestCase):
    def test_told_lists_are_the_askers_own(self):
        told = picked(SOUND, HOT)
        told.append(9)
        self.assertEqual(picked(SOUND, HOT), [0, 1])
        told = picked(SOUND, COLD)
        told.clear()
        self.assertEqual(picked(SOUND, COLD), [3])

    def test_nothing_handed_in_is_changed_and_the_same_answer_again(self):
        house, one, other = copy.deepcopy((SOUND, ("and", HOT, ("not", ("at", (0, 1)))), ("or", HOT, SWEET)))

        def asked():
            return [is_pick(house, one), picked(house, one), pick_text(house, one), pick_alike(house, one, other),
                    pick_read(house, "a & b"), parting(other, HOT)]
        self.assertEqual(asked(), asked())
        self.assertEqual((house, one, other), (SOUND, ("and", HOT, ("not", ("at", (0, 1)))), ("or", HOT, SWEET)))
        for thing in ([0, [1]], {"a": [0]}, ([0],), ("not", [HOT]), ["and", HOT, HOT], ("at", [0])):
            before = copy.deepcopy(thing)
            self.assertIs(is_pick(house, thing), False)
            self.assertRaises(NoPick, picked, house, thing)
            self.assertRaises(NoPick, parting, HOT, thing)
            self.assertRaises(NoText, pick_read, house, thing)
            self.assertEqual(thing, before)


if __name__ == "__main__":
    unittest.main()
