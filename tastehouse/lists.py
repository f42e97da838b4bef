"""Lists of what was done in a run, looked at by whoever is shown one, of sound houses ([64])."""

from tastehouse.errors import NoList
from tastehouse.faults import refuse_not_sound
from tastehouse.houses import is_tuple_of
from tastehouse.runs import WHATS, refuse_no_often, run_through
from tastehouse.turns import refuse_no_order

# What each word of a list tells of; a miss is none of them, it only follows one that went wrong.
WHAT_OF = {"cook": "cook", "burn": "cook", "pour": "pour", "spill": "pour", "taste": "taste", "bad": "taste"}


def is_run_list(house, order, often, thing):
    """Whether a thing of whatever kind is the list of a run with some mishaps."""
    refuse_not_sound(house)
    refuse_no_order(house, order)
    refuse_no_often(often)
    return is_told_list(house, order, often, thing)


def mishaps_of(house, order, often, thing):
    """The mishaps that the list of a run shows."""
    if not is_run_list(house, order, often, thing):
        raise NoList("this is no list of a run of this order")
    return shown_mishaps(thing)


def is_told_list(house, order, often, thing):
    """What is_run_list tells, of a house, an order and how often that are looked at already."""
    if not isinstance(thing, list) or not all(is_deed(deed) for deed in thing):
        return False
    # Mishaps that a run does not come to change nothing: those shown tell the same list, or no mishaps do.
    told = run_through(house, order, shown_mishaps(thing), often).done
    return is_same(tuple(thing), tuple(told))


def is_deed(thing):
    """Whether a thing of whatever kind is a tuple of a text and something else."""
    return is_tuple_of(thing, 2, 2) and isinstance(thing[0], str)


def shown_mishaps(deeds):
    """Of the cookings, pourings and tastings among deeds those that went wrong, as mishaps."""
    counts = {what: 0 for what in WHATS}
    mishaps = []
    for deed in deeds:
        word = deed[0]
        what = WHAT_OF.get(word)
        if what is not None:
            if word != what:
                mishaps.append((what, counts[what]))
            counts[what] += 1
    return tuple(sorted(mishaps))


def is_same(thing, told):
    """Whether a thing of whatever kind is just what was told, made of texts, whole numbers and tuples."""
    if isinstance(told, tuple):
        if not is_tuple_of(thing, len(told), len(told)):
            return False
        return all(is_same(part, right) for part, right in zip(thing, told))
    # To Python True is 1 and False is 0.
    return not isinstance(thing, bool) and thing == told
