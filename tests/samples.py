"""Houses and things that several tests hand in."""

# Names told at a table, its evening and the house; a ring that is found, a ring that is not.
TABLES = (2, 1, 3)
RECIPES = (
    (0, (), 3, 1, ()),
    (0, (0,), 2, 2, (0, 1)),
    (0, (0, 1), 1, 3, (0, 2)),
    (1, (), 3, 1, (2,)),
    (2, (), 3, 1, (1,)),
    (3, (2, 2), 0, 1, (4, 0)),
    (4, (2, 2), 0, 1, (3, 5)),
    (7, (1, 0), 0, 2, (7, 6)),
)
TASTINGS = (
    ((0, 1), (0, 6), ("hot", "sweet")),
    ((0, 0), (), ()),
    ((1, 0), (5, 0), ("a", "ab", "b", "zzzzzzzz")),
)
HOUSE = (TABLES, RECIPES, TASTINGS)

SMALLEST = ((1,), (), ())

FULLEST = (
    (3, 3, 3),
    tuple((name, (2, 2), 3, 3, (5, 6, 7)) for name in range(8)),
    tuple(((2, 2), (7, 0, 3), ("abcdefgh", "b", "c", "zzzzzzzz")) for number in range(6)),
)


def nested(kind, depth):
    """An empty thing of a kind within another one, and so on."""
    thing = kind()
    for level in range(depth - 1):
        thing = kind([thing]) if kind != dict else {"a": thing}
    return thing


# None of these is a house, a spot or a number of any kind.
STRANGE = (
    None, True, False, "", "0", "()", "house", "a" * 2000, -1, 10 ** 39, -(10 ** 39),
    [], [0], [0, 0], [[]], {}, {0: 0}, {"spot": ()}, {(): ()},
    ("0",), (None,), (True,), (False,), (0, False), (False, 0), (0, "0"), (0, None), (0, [0]), ([0], 0),
    ((),), ((), ()), ((0,),), ((0, 0),), (-1,), (0, -1), (-1, 0), (10 ** 39,), (0, 10 ** 39), (0, 0, 0), ({},),
    nested(list, 30), nested(tuple, 30), nested(dict, 30), tuple([0] * 8999), [0] * 8999,
)


def at_house(*needs, keeps=None, sorts=None):
    """Recipes told at the house, named by their numbers, with these needs."""
    return tuple((number, (), keeps[number] if keeps else 3, sorts[number] if sorts else 1, need)
                 for number, need in enumerate(needs))


# One fault each: a recipe's lack, a tasting's lack, a short, a ring; then some of them together.
LACK = ((1,), at_house((), (0, 7)), (((0, 0), (1,), ()),))
TASTING_LACK = ((1,), at_house((), (0,)), (((0, 0), (1, 6), ()),))
SHORT = ((1,), at_house((), (0,), keeps=(2, 3)), (((0, 0), (1,), ()),))
RING = ((1,), at_house((1,), (0,)), (((0, 0), (1,), ()),))
LACK_SHORT = ((1,), at_house((), (0, 7), keeps=(2, 3)), (((0, 0), (1,), ()),))
LACK_RING = ((1,), at_house((1,), (0, 7)), (((0, 0), (1,), ()),))
SHORT_RING = ((1,), at_house((1,), (0,), keeps=(0, 1)), (((0, 0), (1,), ()),))
ALL_FAULTS = ((1,), at_house((1,), (0,), keeps=(0, 1)), (((0, 0), (1, 5), ()),))
UNSOUND = (LACK, TASTING_LACK, SHORT, RING, LACK_SHORT, LACK_RING, SHORT_RING, ALL_FAULTS, HOUSE, FULLEST)

# A recipe that is wanted by two ways, names told anew at an evening and a table, each keep, a tasting without needs.
SOUND = (
    (2, 1),
    (
        (0, (), 3, 2, ()),
        (1, (), 2, 1, (0,)),
        (2, (), 1, 3, (0,)),
        (3, (), 0, 2, (2, 1)),
        (0, (0, 1), 1, 1, (0,)),
        (5, (0,), 2, 2, (6, 0)),
        (6, (), 3, 1, ()),
        (7, (1,), 0, 3, ()),
    ),
    (
        ((0, 0), (3,), ("hot",)),
        ((0, 1), (0, 5), ("hot", "sweet")),
        ((1, 0), (), ()),
        ((1, 0), (7, 1, 0), ("cold",)),
    ),
)

# A row of pots of each keep, and one beside it; tastings at three tables of two evenings.
KITCHEN = (
    (2, 1),
    (
        (0, (), 3, 2, ()),
        (1, (), 2, 2, (0,)),
        (2, (), 1, 2, (1,)),
        (3, (), 0, 2, (2,)),
        (4, (), 3, 3, ()),
    ),
    (
        ((0, 0), (3,), ()),
        ((0, 1), (4, 2), ()),
        ((1, 0), (2,), ()),
        ((0, 0), (4,), ()),
        ((0, 0), (), ()),
    ),
)

# None of these is an order of the kitchen.
NO_ORDERS = (
    0, [], {}, "", None, True, [(4, ())], (4, ()), ((4, ()), 0), ((4, ()), (4, ())), ((4, ()), (3, (1,)), (4, ())),
    ((3, (True,)),), ((3, (1,)), (3, [1])), ((3, (3,)),), ((5, ()),), (((4, ()),),), ((4, ()), None), ((-1, ()),),
)
