"""Runs: what is done in a run of turns and what comes of it, whatever goes wrong, of sound houses ([61] to [63])."""

from tastehouse.course import Course
from tastehouse.errors import NoMishaps
from tastehouse.faults import refuse_not_sound
from tastehouse.houses import is_count, is_rising, is_tuple_of
from tastehouse.refusals import refuse_no_number
from tastehouse.turns import refuse_no_order

MOST_OFTEN = 99
WHATS = ("cook", "pour", "taste")


def run_list(house, order, mishaps, often):
    """The list of what is done in a run, one deed behind the other."""
    return checked_run(house, order, mishaps, often).done


def came_of(house, order, mishaps, often):
    """The tuple with for each turn of the order "good", "bad", "missed" or "left"."""
    return tuple(checked_run(house, order, mishaps, often).came)


def standing_as(house, order, mishaps, often, place):
    """The tuple of the pots that stand as the turn at a place of the order is tasted, or None."""
    course = checked_run(house, order, mishaps, often)
    refuse_no_number(place, 0, len(order) - 1)
    return course.stood[place]


def checked_run(house, order, mishaps, often):
    """The course of a run gone to its end, of things that are looked at first."""
    refuse_not_sound(house)
    refuse_no_order(house, order)
    refuse_no_mishaps(mishaps)
    refuse_no_often(often)
    return run_through(house, order, mishaps, often)


def run_through(house, order, mishaps, often):
    """The course of a run gone to its end, of things that are looked at already."""
    course = Course(house, order, often)
    wrong = set(mishaps)
    counts = {what: 0 for what in WHATS}
    while course.due() is not None:
        what = course.due()[0]
        course.went((what, counts[what]) not in wrong)
        counts[what] += 1
    return course


def refuse_no_often(thing):
    """Refuses what tells not how often a run is let go wrong."""
    refuse_no_number(thing, 1, MOST_OFTEN)


def refuse_no_mishaps(thing):
    """Refuses what is no mishaps."""
    if not are_mishaps(thing):
        raise NoMishaps("these are no mishaps")


def are_mishaps(thing):
    """Whether a thing of whatever kind is mishaps."""
    return isinstance(thing, tuple) and all(is_mishap(mishap) for mishap in thing) and is_rising(thing)


def is_mishap(thing):
    """Whether a thing of whatever kind is one of mishaps."""
    return is_tuple_of(thing, 2, 2) and thing[0] in WHATS and is_count(thing[1])
