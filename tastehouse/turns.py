"""Turns: the tastings in each choice of sorts, and orders of them, of sound houses ([41] to [43])."""

from tastehouse.errors import NoOrder, NoTurn, NotThere, TooMany
from tastehouse.faults import refuse_not_sound
from tastehouse.houses import is_tuple_of, is_whole
from tastehouse.refusals import refuse_no_count, refuse_no_tasting
from tastehouse.wants import wants_of_tasting

MOST_TURNS_TOLD = 81


def is_turn(house, thing):
    """Whether a thing of whatever kind is a turn of the house."""
    refuse_not_sound(house)
    return is_turn_of(house, thing)


def many_turns_of(house, tasting):
    """How many turns a tasting has."""
    refuse_not_sound(house)
    refuse_no_tasting(house, tasting)
    return many_sorts(choices_of(house, tasting))


def many_turns(house):
    """How many turns the house has."""
    refuse_not_sound(house)
    return many_ahead(house, len(house[2]))


def turn_at(house, number):
    """The turn of a number."""
    refuse_not_sound(house)
    refuse_no_count(number)
    turn = turn_or_none(house, number)
    if turn is None:
        raise NotThere("the house has fewer turns")
    return turn


def number_of(house, turn):
    """The number of a turn."""
    refuse_not_sound(house)
    refuse_no_turn(house, turn)
    return number_of_turn(house, turn)


def turn_behind(house, turn):
    """The turn behind a turn, or None."""
    refuse_not_sound(house)
    refuse_no_turn(house, turn)
    return turn_or_none(house, number_of_turn(house, turn) + 1)


def order_of(house, tasting):
    """The order of all turns of a tasting as tuples compare."""
    refuse_not_sound(house)
    refuse_no_tasting(house, tasting)
    choices = choices_of(house, tasting)
    if many_sorts(choices) > MOST_TURNS_TOLD:
        raise TooMany(f"the tasting has more than {MOST_TURNS_TOLD} turns")
    return tuple((tasting, sorts_at(choices, number)) for number in range(many_sorts(choices)))


def refuse_no_turn(house, thing):
    """Refuses what is no turn of the house."""
    if not is_turn_of(house, thing):
        raise NoTurn("this is no turn of the house")


def refuse_no_order(house, thing):
    """Refuses what is no order of the house."""
    if not is_order_of(house, thing):
        raise NoOrder("this is no order of the house")


def is_order_of(house, thing):
    """Whether a thing of whatever kind is an order of a house that is looked at already."""
    if not isinstance(thing, tuple) or not all(is_turn_of(house, turn) for turn in thing):
        return False
    return len(set(thing)) == len(thing)


def is_turn_of(house, thing):
    """What is_turn tells, of a house that is looked at already."""
    if not is_tuple_of(thing, 2, 2):
        return False
    tasting, sorts = thing
    if not is_whole(tasting, 0, len(house[2]) - 1):
        return False
    choices = choices_of(house, tasting)
    if not is_tuple_of(sorts, len(choices), len(choices)):
        return False
    return all(is_whole(sort, 0, many - 1) for sort, many in zip(sorts, choices))


def choices_of(house, tasting):
    """For each recipe that is wanted for a tasting, in order, how many sorts it has."""
    return tuple(house[1][recipe][3] for recipe in wants_of_tasting(house, tasting))


def many_sorts(choices):
    """In how many ways one can be chosen from each of the choices."""
    many = 1
    for choice in choices:
        many *= choice
    return many


def many_ahead(house, tasting):
    """How many turns the tastings ahead of a tasting have."""
    return sum(many_sorts(choices_of(house, other)) for other in range(tasting))


def turn_or_none(house, number):
    """The turn of a number from 0 on, or None."""
    left = number
    for tasting in range(len(house[2])):
        choices = choices_of(house, tasting)
        many = many_sorts(choices)
        if left < many:
            return (tasting, sorts_at(choices, left))
        left -= many
    return None


def number_of_turn(house, turn):
    """What number_of tells, of a house and a turn that are looked at already."""
    tasting, sorts = turn
    number = 0
    for sort, many in zip(sorts, choices_of(house, tasting)):
        number = number * many + sort
    return many_ahead(house, tasting) + number


def sorts_at(choices, number):
    """The sorts of a number, of all that can be chosen, as tuples compare."""
    left = number
    sorts = []
    # The last sort changes first as tuples rise, so it is the lowest figure of the number.
    for many in reversed(choices):
        left, sort = divmod(left, many)
        sorts.append(sort)
    return tuple(reversed(sorts))
