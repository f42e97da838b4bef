"""Houses: what a house and its parts are, and which spots it has ([2], [11])."""

MOST_EVENINGS = 3
MOST_TABLES = 3
MOST_RECIPES = 8
MOST_TASTINGS = 6
MOST_NAME = 7
MOST_KEEP = 3
MOST_SORTS = 3
MOST_NEEDS = 3
MOST_WORDS = 4
MOST_SIGNS = 8


def is_house(thing):
    """Whether a thing of whatever kind is a house."""
    if not is_tuple_of(thing, 3, 3):
        return False
    tables, recipes, tastings = thing
    return are_tables(tables) and are_recipes(tables, recipes) and are_tastings(tables, tastings)


def is_spot(house, thing):
    """Whether a thing of whatever kind is a spot of the house."""
    return is_spot_of(house[0], thing)


def is_number(thing):
    """Whether a thing of whatever kind is a whole number."""
    # Python counts True and False as ints, a house does not.
    return isinstance(thing, int) and not isinstance(thing, bool)


def is_count(thing):
    """Whether a thing of whatever kind is a whole number from 0 on."""
    return is_number(thing) and thing >= 0


def is_whole(thing, least, most):
    """Whether a thing of whatever kind is a whole number from least to most."""
    return is_number(thing) and least <= thing <= most


def is_name(thing):
    """Whether a thing of whatever kind is a name of a pot."""
    return is_whole(thing, 0, MOST_NAME)


def is_word(thing):
    """Whether a thing of whatever kind is a word."""
    if not isinstance(thing, str) or not 1 <= len(thing) <= MOST_SIGNS:
        return False
    return all("a" <= sign <= "z" for sign in thing)


def is_tuple_of(thing, least, most):
    """Whether a thing of whatever kind is a tuple of least to most parts."""
    return isinstance(thing, tuple) and least <= len(thing) <= most


def is_rising(things):
    """Whether each thing of a tuple, all of one kind, is greater than the one ahead."""
    return all(ahead < behind for ahead, behind in zip(things, things[1:]))


def are_tables(thing):
    """Whether a thing of whatever kind tells how many tables each evening has."""
    return is_tuple_of(thing, 1, MOST_EVENINGS) and all(is_whole(many, 1, MOST_TABLES) for many in thing)


def is_spot_of(tables, thing):
    """Whether a thing of whatever kind is a spot of a house with these tables."""
    if not is_tuple_of(thing, 0, 2):
        return False
    if len(thing) == 0:
        return True
    evening = thing[0]
    if not is_whole(evening, 0, len(tables) - 1):
        return False
    return len(thing) == 1 or is_whole(thing[1], 0, tables[evening] - 1)


def are_needs(thing):
    """Whether a thing of whatever kind is a tuple of needs."""
    if not is_tuple_of(thing, 0, MOST_NEEDS) or not all(is_name(need) for need in thing):
        return False
    return len(set(thing)) == len(thing)


def are_words(thing):
    """Whether a thing of whatever kind is a rising tuple of words."""
    if not is_tuple_of(thing, 0, MOST_WORDS) or not all(is_word(word) for word in thing):
        return False
    return is_rising(thing)


def is_recipe(tables, thing):
    """Whether a thing of whatever kind is a recipe of a house with these tables."""
    if not is_tuple_of(thing, 5, 5):
        return False
    name, spot, keep, sorts, needs = thing
    if not is_name(name) or not is_spot_of(tables, spot):
        return False
    return is_whole(keep, 0, MOST_KEEP) and is_whole(sorts, 1, MOST_SORTS) and are_needs(needs)


def is_tasting(tables, thing):
    """Whether a thing of whatever kind is a tasting of a house with these tables."""
    if not is_tuple_of(thing, 3, 3):
        return False
    spot, needs, words = thing
    return is_spot_of(tables, spot) and len(spot) == 2 and are_needs(needs) and are_words(words)


def are_recipes(tables, thing):
    """Whether a thing of whatever kind is the recipes of a house with these tables."""
    if not is_tuple_of(thing, 0, MOST_RECIPES) or not all(is_recipe(tables, recipe) for recipe in thing):
        return False
    return len({(recipe[0], recipe[1]) for recipe in thing}) == len(thing)


def are_tastings(tables, thing):
    """Whether a thing of whatever kind is the tastings of a house with these tables."""
    return is_tuple_of(thing, 0, MOST_TASTINGS) and all(is_tasting(tables, tasting) for tasting in thing)
