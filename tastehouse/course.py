"""The course of a run: which deed is due, deed by deed, however each of them goes ([61], [62])."""

from tastehouse.pots import is_for_one, place_of, pots_of_turn
from tastehouse.wants import wants_of_recipe


class Course:
    """A run of an order's turns under way, of a house, an order and how often that are looked at already."""

    def __init__(self, house, order, often):
        self.home = house
        self.turns = order
        self.often = often
        self.at = 0
        self.queue = []
        self.standing = []
        self.done = []
        self.came = ["ahead" for turn in order]
        self.stood = [None for turn in order]
        self.go_on()

    def due(self):
        """The deed that is due, or None where all is over."""
        return self.queue[0] if self.queue else None

    def went(self, well):
        """The deed that is due is done, well or not."""
        what, thing = self.queue.pop(0)
        if what == "cook":
            self.cook(thing, well)
        elif what == "taste":
            self.taste(thing, well)
        else:
            self.pour(thing, well)
        if not self.queue:
            self.go_on()

    def cook(self, pot, well):
        """A pot is cooked or burnt; behind a burnt one the turn is missed."""
        self.done.append(("cook" if well else "burn", pot))
        if well:
            self.standing.append(pot)
        else:
            self.done.append(("miss", self.turns[self.at]))
            self.end_turn("missed")

    def taste(self, turn, well):
        """A turn is tasted."""
        self.stood[self.at] = tuple(self.standing)
        self.done.append(("taste" if well else "bad", turn))
        self.end_turn("good" if well else "bad")

    def pour(self, pot, well):
        """A pot is poured out or spilled: it is gone either way."""
        self.done.append(("pour" if well else "spill", pot))
        self.standing.remove(pot)

    def end_turn(self, word):
        """Behind a turn what is kept for one tasting is due to be poured out, in place of all that was due."""
        self.came[self.at] = word
        if self.came.count("bad") + self.came.count("missed") == self.often:
            self.came = ["left" if other == "ahead" else other for other in self.came]
        self.queue = pourings([pot for pot in self.standing if is_for_one(self.home, pot)])

    def leave_others(self):
        """Each turn behind the one that is come to is left."""
        self.came = ["left" if word == "ahead" and place != self.at else word for place, word in enumerate(self.came)]

    def state(self):
        """All that deeds change, kept so that no later deed changes it."""
        lists = (self.queue, self.standing, self.done, self.came, self.stood)
        return (self.at, tuple(tuple(things) for things in lists))

    def put_back(self, state):
        """All is again as it was in a state that was kept."""
        self.at, lists = state
        self.queue, self.standing, self.done, self.came, self.stood = [list(things) for things in lists]

    def go_on(self):
        """Where all that was due is over, the next turn is come to; where there is none, all is poured out."""
        if "ahead" in self.came:
            self.at = self.came.index("ahead")
            self.queue = deeds_of_turn(self.home, self.standing, self.turns[self.at])
        else:
            self.queue = pourings(self.standing)


def pourings(pots):
    """The deeds by which pots are poured out, the one cooked last first."""
    return [("pour", pot) for pot in reversed(pots)]


def deeds_of_turn(house, standing, turn):
    """The deeds for a turn as it is come to, up to its tasting, where none of them goes wrong."""
    wanted = pots_of_turn(house, turn)
    going = pots_going(house, standing, turn[0], wanted)
    staying = [pot for pot in standing if pot not in going]
    cookings = [("cook", pot) for pot in wanted if pot not in staying]
    return pourings(going) + cookings + [("taste", turn)]


def pots_going(house, standing, tasting, wanted):
    """The pots that go as a turn of a tasting is come to, in the order in which they were cooked."""
    firsts = [pot for pot in standing if is_unfit(house, pot, tasting, wanted)]
    return [pot for pot in standing if pot in firsts or is_cooked_of_any(house, pot, firsts)]


def is_unfit(house, pot, tasting, wanted):
    """Whether a pot is of another place than the tasting's, or another pot of its recipe is wanted."""
    recipe, place, sorts = pot
    return place != place_of(house, tasting, recipe) or any(recipe == other[0] and pot != other for other in wanted)


def is_cooked_of_any(house, pot, others):
    """Whether a pot is cooked of one of others that stand with it."""
    # Of each recipe one pot stands at most, and what a pot is cooked of stands as long: recipes tell enough.
    wanted = wants_of_recipe(house, pot[0])
    return any(other[0] in wanted for other in others)
