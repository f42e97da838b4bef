"""The fewest pots: by which order of turns they are cooked, and tables that show it, of sound houses ([91] to [93]).

A state of an order is (left, pots): the turns that are not had yet, and the pots that stand behind the others.
"""

from tastehouse.course import deeds_of_turn
from tastehouse.errors import TooMany
from tastehouse.faults import refuse_not_sound
from tastehouse.houses import is_count, is_tuple_of
from tastehouse.lists import is_same
from tastehouse.pots import is_for_one
from tastehouse.runs import run_through
from tastehouse.turns import refuse_no_order

MOST_TURNS = 5


def cooked(house, order):
    """How many pots are cooked in the run of an order, where nothing goes wrong."""
    refuse_not_sound(house)
    refuse_no_order(house, order)
    return len([word for word, thing in run_through(house, order, (), 1).done if word == "cook"])


def fewest_order(house, order):
    """The order of the same turns by which the fewest pots are cooked, of several the first."""
    steps = checked_steps(house, order)
    floors = greatest_floors(steps)
    state = first_state(order)
    told = []
    while steps[state]:
        best = [step for step in steps[state] if step[1] + floors[step[2]] == floors[state]]
        # The turns that are left rise, so the first of the best ones gives the first order.
        turn, many, state = best[0]
        told.append(turn)
    return tuple(told)


def fewest_pots(house, order):
    """How many pots are cooked by that order."""
    return greatest_floors(checked_steps(house, order))[first_state(order)]


def is_table(house, order, thing):
    """Whether a thing of whatever kind is a right table of an order."""
    steps = checked_steps(house, order)
    states = sorted(steps)
    # The states are unlike, so a table rises just where its states do.
    if not is_tuple_of(thing, len(states), len(states)):
        return False
    if not all(is_row(state, row) for state, row in zip(states, thing)):
        return False
    floors = {state: row[2] for state, row in zip(states, thing)}
    return all(is_right_floor(floors, state, steps[state]) for state in states)


def best_table(house, order):
    """The right table of an order with the greatest floors."""
    floors = greatest_floors(checked_steps(house, order))
    return tuple(sorted([(*state, floors[state]) for state in floors]))


def checked_steps(house, order):
    """What steps_of tells, of things that are looked at first."""
    refuse_not_sound(house)
    refuse_no_order(house, order)
    if len(order) > MOST_TURNS:
        raise TooMany(f"the order has more than {MOST_TURNS} turns")
    return steps_of(house, order)


def first_state(order):
    """The state of an order of which no turn is had yet."""
    return (tuple(sorted(order)), ())


def steps_of(house, order):
    """For each state the list of what can come next; a state with more turns left is ahead of one with fewer."""
    steps = {}
    states = [first_state(order)]
    while states:
        for state in states:
            steps[state] = [step_by(house, state, turn) for turn in state[0]]
        # A dict, since one state may come of several.
        states = list({step[2]: True for state in states for step in steps[state]})
    return steps


def step_by(house, state, turn):
    """(turn, many, after): how many pots are cooked for a turn that comes next, and the state that comes of it."""
    left, pots = state
    deeds = deeds_of_turn(house, pots, turn)
    gone = [thing for what, thing in deeds if what == "pour"]
    new = [thing for what, thing in deeds if what == "cook"]
    standing = [pot for pot in pots if pot not in gone] + new
    staying = tuple(pot for pot in standing if not is_for_one(house, pot))
    return (turn, len(new), (tuple(other for other in left if other != turn), staying))


def greatest_floors(steps):
    """For each state the fewest pots that are cooked for the turns that are left."""
    floors = {}
    for state in reversed(list(steps)):
        floors[state] = min([many + floors[after] for turn, many, after in steps[state]], default=0)
    return floors


def is_row(state, thing):
    """Whether a thing of whatever kind is a state with a floor."""
    return is_tuple_of(thing, 3, 3) and is_same(thing[:2], state) and is_count(thing[2])


def is_right_floor(floors, state, steps):
    """Whether the floor of a state is 0 where nothing is left, else not above what any step shows."""
    if not steps:
        return floors[state] == 0
    return all(floors[state] <= many + floors[after] for turn, many, after in steps)
