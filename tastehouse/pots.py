"""Pots: what a turn wants to stand as it is tasted, of sound houses ([51], [52])."""

from tastehouse.faults import refuse_not_sound
from tastehouse.houses import MOST_KEEP
from tastehouse.turns import refuse_no_order, refuse_no_turn
from tastehouse.wants import wants_of_recipe, wants_of_tasting


def pots_of(house, turn):
    """The tuple of the pots that a turn wants, in order."""
    refuse_not_sound(house)
    refuse_no_turn(house, turn)
    return pots_of_turn(house, turn)


def shared(house, one, other):
    """The list of the pots that two turns want, in the first one's order."""
    refuse_not_sound(house)
    refuse_no_turn(house, one)
    refuse_no_turn(house, other)
    others = pots_of_turn(house, other)
    return [pot for pot in pots_of_turn(house, one) if pot in others]


def unlike_pots(house, order):
    """How many unlike pots the turns of an order want."""
    refuse_not_sound(house)
    refuse_no_order(house, order)
    pots = [pot for turn in order for pot in pots_of_turn(house, turn)]
    for_one = [pot for pot in pots if is_for_one(house, pot)]
    # A pot for one tasting is never shared with another turn, not even with one that wants it just so.
    return len(for_one) + len({pot for pot in pots if not is_for_one(house, pot)})


def pots_of_turn(house, turn):
    """What pots_of tells, of a house and a turn that are looked at already."""
    tasting, sorts = turn
    wanted = wants_of_tasting(house, tasting)
    sort_of = dict(zip(wanted, sorts))
    return tuple(pot_of(house, tasting, recipe, sort_of) for recipe in wanted)


def pot_of(house, tasting, recipe, sort_of):
    """The pot of a recipe that a tasting wants, each recipe in its sort."""
    sorts = tuple(sort_of[other] for other in wants_of_recipe(house, recipe))
    return (recipe, place_of(house, tasting, recipe), sorts)


def place_of(house, tasting, recipe):
    """The place that a tasting has for the keep of a recipe."""
    evening, table = house[2][tasting][0]
    nearest = (evening, table, tasting)
    return nearest[:MOST_KEEP - house[1][recipe][2]]


def is_for_one(house, pot):
    """Whether a pot is kept for one tasting."""
    return house[1][pot[0]][2] == 0
