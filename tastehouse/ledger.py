"""A ledger: a house that is changed deed by deed, and what is known of its turns, of sound houses ([101], [102])."""

from tastehouse.errors import NoWord, TooMany
from tastehouse.faults import refuse_not_sound
from tastehouse.refusals import refuse_no_deed, refuse_no_house, refuse_no_recipe
from tastehouse.turns import MOST_TURNS_TOLD, many_turns, order_of, refuse_no_turn
from tastehouse.wants import wants_of_tasting

NOTED = ("good", "bad")


class Ledger:
    """A house, and of its turns what came of them."""

    def __init__(self, house):
        refuse_not_sound(house)
        self.home = house
        # The dict that stands here is never changed, a deed puts a new one: so those of the past stay as they were.
        self.word_of = {}
        self.past = []

    def note(self, turn, word):
        """What came of a turn is noted."""
        refuse_no_turn(self.home, turn)
        if word not in NOTED:
            raise NoWord("this is neither good nor bad")
        word_of = {other: self.word_of[other] for other in self.word_of}
        word_of[turn] = word
        self.become(self.home, word_of)

    def change(self, recipe, keep, sorts, needs):
        """A recipe has another keep, sorts and needs."""
        self.take(self.house_changed(recipe, keep, sorts, needs))

    def add_recipe(self, recipe):
        """A recipe is put behind the others."""
        tables, recipes, tastings = self.home
        self.take(checked_house((tables, (*recipes, recipe), tastings)))

    def add_tasting(self, tasting):
        """A tasting is put behind the others."""
        tables, recipes, tastings = self.home
        self.take(checked_house((tables, recipes, (*tastings, tasting))))

    def undo(self):
        """The last deed is undone."""
        refuse_no_deed(self.past)
        self.home, self.word_of = self.past.pop()

    def house(self):
        """The house as it is now."""
        return self.home

    def known(self, turn):
        """What is known of a turn, or None."""
        refuse_no_turn(self.home, turn)
        return self.word_of.get(turn)

    def to_have(self):
        """The rising list of all turns of which nothing is known."""
        if many_turns(self.home) > MOST_TURNS_TOLD:
            raise TooMany(f"the house has more than {MOST_TURNS_TOLD} turns")
        orders = [order_of(self.home, tasting) for tasting in range(len(self.home[2]))]
        return [turn for order in orders for turn in order if turn not in self.word_of]

    def would_lose(self, recipe, keep, sorts, needs):
        """The rising list of the turns that would no longer be known, were a recipe changed so."""
        house = self.house_changed(recipe, keep, sorts, needs)
        return sorted([turn for turn in self.word_of if not stays_known(self.home, house, turn)])

    def house_changed(self, recipe, keep, sorts, needs):
        """The house with a recipe changed so, refused where that is none or not sound."""
        refuse_no_recipe(self.home, recipe)
        tables, recipes, tastings = self.home
        name, spot = recipes[recipe][:2]
        changed = (name, spot, keep, sorts, needs)
        return checked_house((tables, (*recipes[:recipe], changed, *recipes[recipe + 1:]), tastings))

    def take(self, house):
        """The house becomes another one, and with it what is known of turns that want other things is lost."""
        word_of = {turn: self.word_of[turn] for turn in self.word_of if stays_known(self.home, house, turn)}
        self.become(house, word_of)

    def become(self, house, word_of):
        """A deed is done; what was ahead of it is kept, for it may be undone."""
        self.past.append((self.home, self.word_of))
        self.home = house
        self.word_of = word_of


def checked_house(thing):
    """A thing that must be a sound house."""
    refuse_no_house(thing)
    refuse_not_sound(thing)
    return thing


def stays_known(before, after, turn):
    """Whether a turn's tasting wants the same recipes in the same order, and none of them is another one."""
    return wanted_recipes(before, turn[0]) == wanted_recipes(after, turn[0])


def wanted_recipes(house, tasting):
    """The recipes that are wanted for a tasting, each with its number."""
    return [(recipe, house[1][recipe]) for recipe in wants_of_tasting(house, tasting)]
