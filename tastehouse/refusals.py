"""What is handed in wrongly is refused, each with its own class ([5]).

The texts never show what was handed in: it may be of whatever kind and size.
"""

from tastehouse.errors import NoDeed, NoHouse, NoNumber, NoRecipe, NoSpot, NoTasting, NoText
from tastehouse.houses import is_count, is_house, is_spot, is_whole


def refuse_no_house(thing):
    """Refuses what is no house."""
    if not is_house(thing):
        raise NoHouse("what would come of this is no house")


def refuse_no_spot(house, thing):
    """Refuses what is no spot of the house."""
    if not is_spot(house, thing):
        raise NoSpot("this is no spot of the house")


def refuse_no_recipe(house, thing):
    """Refuses what is no number of a recipe of the house."""
    if not is_whole(thing, 0, len(house[1]) - 1):
        raise NoRecipe("this is no number of a recipe of the house")


def refuse_no_tasting(house, thing):
    """Refuses what is no number of a tasting of the house."""
    if not is_whole(thing, 0, len(house[2]) - 1):
        raise NoTasting("this is no number of a tasting of the house")


def refuse_no_number(thing, least, most):
    """Refuses what is no whole number from least to most."""
    if not is_whole(thing, least, most):
        raise NoNumber(f"this is no whole number from {least} to {most}")


def refuse_no_count(thing):
    """Refuses what is no whole number from 0 on."""
    if not is_count(thing):
        raise NoNumber("this is no whole number from 0 on")


def refuse_no_text(thing):
    """Refuses what is no text at all, to be read or not."""
    if not isinstance(thing, str):
        raise NoText("this is no text")


def refuse_no_deed(past):
    """Refuses to undo where the past, with an entry for each deed that is not undone yet, is empty."""
    if not past:
        raise NoDeed("nothing is left that could be undone")
