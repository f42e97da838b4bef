"""Faults: needs that are found nowhere, keeps that are too long, rings; and heights, which show that there is no ring.

All of this is told of every house, sound or not ([21] to [23]).
"""

from tastehouse.errors import NotSound
from tastehouse.finding import straight_of, tasting_needs
from tastehouse.houses import is_count, is_tuple_of


def lacks(house):
    """The rising list of the needs of recipes and tastings that are found nowhere."""
    of_recipes = [
        ("recipe", number, need)
        for number, recipe in enumerate(house[1])
        for need, found in zip(recipe[4], straight_of(house, number))
        if found is None
    ]
    of_tastings = [
        ("tasting", number, need)
        for number, tasting in enumerate(house[2])
        for need, found in zip(tasting[1], tasting_needs(house, number))
        if found is None
    ]
    return sorted(of_recipes + of_tastings)


def shorts(house):
    """The rising list of (recipe, other): the recipe is cooked straight of the other one and kept longer."""
    return sorted([
        (recipe, other)
        for recipe, others in enumerate(all_straight(house))
        for other in others
        if house[1][recipe][2] > house[1][other][2]
    ])


def first_ring(house):
    """Of the rings with the fewest recipes the first one as tuples compare, or None."""
    straight = all_straight(house)
    rows = [(recipe,) for recipe in range(len(straight))]
    # All rows are of one length, which grows: so the first rings met are those with the fewest recipes.
    while rows:
        rings = [row for row in rows if row[0] in straight[row[-1]]]
        if rings:
            return min(rings)
        rows = [(*row, other) for row in rows for other in straight[row[-1]] if other > row[0] and other not in row]
    return None


def are_heights(house, thing):
    """Whether a thing of whatever kind is heights of the house."""
    many = len(house[1])
    if not is_tuple_of(thing, many, many) or not all(is_count(height) for height in thing):
        return False
    return all(thing[recipe] > thing[other] for recipe, others in enumerate(all_straight(house)) for other in others)


def least_heights(house):
    """The least heights of the house, or None."""
    straight = all_straight(house)
    heights = [0 for others in straight]
    # No row of unlike recipes is longer than there are recipes: by then all heights stay, or there is a ring.
    for step in range(len(straight)):
        heights = [max([heights[other] + 1 for other in others], default=0) for others in straight]
    told = tuple(heights)
    return told if are_heights(house, told) else None


def is_sound(house):
    """Whether the house has no lack, no short and no ring."""
    return first_fault(house) is None


def first_fault(house):
    """The first lack, else the first short, else the first ring, each with its word ahead, or None."""
    told_lacks = lacks(house)
    if told_lacks:
        return ("lack", told_lacks[0])
    told_shorts = shorts(house)
    if told_shorts:
        return ("short", told_shorts[0])
    ring = first_ring(house)
    return None if ring is None else ("ring", ring)


def refuse_not_sound(house):
    """Refuses a house that is not sound."""
    if not is_sound(house):
        raise NotSound("this house is not sound")


def all_straight(house):
    """For each recipe the tuple of those that it is cooked straight of."""
    return [
        tuple(other for other in straight_of(house, recipe) if other is not None)
        for recipe in range(len(house[1]))
    ]
