"""What is wanted: the recipes that must be ready for a tasting or for a recipe, of sound houses ([31] to [33])."""

from tastehouse.faults import least_heights, refuse_not_sound
from tastehouse.finding import straight_of, tasting_needs
from tastehouse.refusals import refuse_no_recipe, refuse_no_tasting


def wanted_for(house, tasting):
    """The tuple of the recipes that are wanted for a tasting, each behind those that it is cooked of."""
    refuse_not_sound(house)
    refuse_no_tasting(house, tasting)
    return wants_of_tasting(house, tasting)


def wanted_alone(house, recipe):
    """The tuple of the recipes that are wanted for a recipe alone, itself last."""
    refuse_not_sound(house)
    refuse_no_recipe(house, recipe)
    return wants_of_recipe(house, recipe)


def tastings_with(house, recipe):
    """The rising list of the tastings for which a recipe is wanted."""
    refuse_not_sound(house)
    refuse_no_recipe(house, recipe)
    return [tasting for tasting in range(len(house[2])) if recipe in wants_of_tasting(house, tasting)]


def cooked_of(house, recipe):
    """The rising list of the recipes that are cooked of a recipe, straight or not."""
    refuse_not_sound(house)
    refuse_no_recipe(house, recipe)
    return [other for other in range(len(house[1])) if is_cooked_of(house, other, recipe)]


def longest_row(house):
    """How many recipes the longest row has in which each is cooked straight of the next one."""
    refuse_not_sound(house)
    # The least height of a recipe is how many can follow it in such a row.
    return max([height + 1 for height in least_heights(house)], default=0)


def wants_of_tasting(house, tasting):
    """What wanted_for tells, of a house and a tasting that are looked at already."""
    return gone_through(house, (), tasting_needs(house, tasting))


def wants_of_recipe(house, recipe):
    """What wanted_alone tells, of a house and a recipe that are looked at already."""
    return gone_through(house, (), (recipe,))


def is_cooked_of(house, recipe, other):
    """Whether a recipe is cooked of another one, straight or not."""
    return recipe != other and other in wants_of_recipe(house, recipe)


def gone_through(house, ahead, recipes):
    """What is wanted behind what is there already, as the recipes are gone through in order."""
    wanted = ahead
    for recipe in recipes:
        if recipe not in wanted:
            wanted = gone_through(house, wanted, straight_of(house, recipe)) + (recipe,)
    return wanted
