"""Finding: at which recipe a name is found from a spot ([6], [12], [13])."""

from tastehouse.houses import MOST_NAME
from tastehouse.refusals import refuse_no_number, refuse_no_recipe, refuse_no_spot, refuse_no_tasting


def found_at(house, spot, name):
    """The number of the recipe at which a name is found from a spot, or None."""
    return nearest_of(all_at(house, spot, name))


def all_at(house, spot, name):
    """The numbers of all recipes of a name whose spots the spot is within, the nearest first."""
    refuse_no_spot(house, spot)
    refuse_no_number(name, 0, MOST_NAME)
    return recipes_from(house, spot, name)


def straight_of(house, recipe):
    """The recipes at which a recipe's needs are found, None for each that is found nowhere."""
    refuse_no_recipe(house, recipe)
    name, spot, keep, sorts, needs = house[1][recipe]
    return tuple(nearest_of(others_from(house, spot, need, recipe)) for need in needs)


def tasting_needs(house, tasting):
    """The recipes at which a tasting's needs are found, None for each that is found nowhere."""
    refuse_no_tasting(house, tasting)
    spot, needs, words = house[2][tasting]
    return tuple(nearest_of(recipes_from(house, spot, need)) for need in needs)


def unfound(house):
    """The rising list of the recipes that nobody finds."""
    found = found_by_tastings(house)
    return [recipe for recipe in range(len(house[1])) if recipe not in found]


def spots_around(spot):
    """The spots that a spot is within, the nearest first: itself, its evening, the house."""
    return [spot[:length] for length in range(len(spot), -1, -1)]


def recipes_from(house, spot, name):
    """What all_at tells, of a spot and a name that are looked at already."""
    # A house has one recipe at most of one name and one spot, so each spot around gives one at most.
    return tuple(
        number
        for around in spots_around(spot)
        for number, recipe in enumerate(house[1])
        if recipe[0] == name and recipe[1] == around
    )


def others_from(house, spot, name, recipe):
    """The same without one recipe."""
    # A recipe that needs its own name would find itself, the nearest one: it must look farther off.
    return tuple(number for number in recipes_from(house, spot, name) if number != recipe)


def nearest_of(numbers):
    """The first of the numbers, the nearest first, or None."""
    return numbers[0] if numbers else None


def found_by_tastings(house):
    """The recipes at which tastings' needs are found and what these are cooked of, as keys."""
    waiting = [number for tasting in range(len(house[2])) for number in tasting_needs(house, tasting)]
    found = {}
    while waiting:
        number = waiting.pop()
        # What was found already is not gone into again: recipes may hang on one another in a ring.
        if number is not None and number not in found:
            found[number] = True
            waiting.extend(straight_of(house, number))
    return found
