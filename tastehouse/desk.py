"""A desk: it keeps a house and an order, is told rows and answers each with a text ([112])."""

from tastehouse.errors import NoOrder, NoRow, TooMany
from tastehouse.faults import first_fault, refuse_not_sound
from tastehouse.fewest import fewest_pots
from tastehouse.houses import MOST_EVENINGS, MOST_RECIPES, MOST_TASTINGS
from tastehouse.picks import pick_read, picked
from tastehouse.refusals import refuse_no_deed, refuse_no_house, refuse_no_recipe
from tastehouse.runs import WHATS
from tastehouse.signs import number_read, numbers_read
from tastehouse.texts import house_text, list_text, recipe_read, tasting_read
from tastehouse.turns import many_turns, refuse_no_turn
from tastehouse.wants import wanted_for

MOST_TURNS_KEPT = 12


def nothing_read(words):
    """Nothing stands behind the first word."""
    return None if words else ()


def one_number_read(words):
    """A number alone."""
    return number_read(words[0]) if len(words) == 1 else None


def pot_read(words):
    """A recipe, whether the house lets it or not."""
    return recipe_read(words)


def taste_read(words):
    """A tasting, whether the house lets it or not."""
    return tasting_read(words)


def sorts_read(words):
    """A tasting's number and its sorts, as a turn, whether the house has it or not."""
    if len(words) < 2 or words[1] != ":":
        return None
    turn = (number_read(words[0]), numbers_read(words[2:]))
    return None if None in turn else turn


def mishaps_read(words):
    """Nothing, or which deed goes wrong, as mishaps."""
    if not words:
        return ()
    if len(words) != 2 or words[0] not in WHATS or number_read(words[1]) is None:
        return None
    return ((words[0], number_read(words[1])),)


def text_read(words):
    """One word or more, as one text."""
    return " ".join(words) if words else None


def with_evening(house, order, many):
    """One evening more."""
    tables, recipes, tastings = house
    refuse_full(tables, MOST_EVENINGS)
    return ((*tables, many), recipes, tastings), order


def with_recipe(house, order, recipe):
    """One recipe more."""
    tables, recipes, tastings = house
    refuse_full(recipes, MOST_RECIPES)
    return (tables, (*recipes, recipe), tastings), ()


def with_tasting(house, order, tasting):
    """One tasting more."""
    tables, recipes, tastings = house
    refuse_full(tastings, MOST_TASTINGS)
    return (tables, recipes, (*tastings, tasting)), ()


def without_recipe(house, order, recipe):
    """One recipe less."""
    tables, recipes, tastings = house
    refuse_no_recipe(house, recipe)
    return (tables, (*recipes[:recipe], *recipes[recipe + 1:]), tastings), ()


def with_turn(house, order, turn):
    """One turn more in the order."""
    refuse_not_sound(house)
    refuse_no_turn(house, turn)
    refuse_full(order, MOST_TURNS_KEPT)
    if turn in order:
        raise NoOrder("the turn is in the order already")
    return house, (*order, turn)


def tell_house(house, order, nothing):
    """The text of the house."""
    return house_text(house)


def tell_fault(house, order, nothing):
    """The first fault of the house."""
    fault = first_fault(house)
    if fault is None:
        return "none"
    word, parts = fault
    return f"{word} {spaced(parts)}"


def tell_wants(house, order, tasting):
    """The recipes that are wanted for a tasting."""
    return spaced(wanted_for(house, tasting))


def tell_turns(house, order, nothing):
    """How many turns the house has."""
    return str(many_turns(house))


def tell_run(house, order, mishaps):
    """The list of the run of the order."""
    return list_text(house, order, mishaps, 1) or "none"


def tell_fewest(house, order, nothing):
    """How many pots are cooked at least."""
    return str(fewest_pots(house, order))


def tell_pick(house, order, text):
    """The tastings that a pick picks."""
    return spaced(picked(house, pick_read(house, text)))


def spaced(things):
    """The texts of things with one blank between each two, or that there are none."""
    return " ".join(str(thing) for thing in things) or "none"


def refuse_full(things, most):
    """Refuses one more where there are as many things as are let."""
    if len(things) >= most:
        raise TooMany(f"there are {most} already")


# What reads the words behind the first word of each row, None where they are otherwise.
READERS = {
    "evening": one_number_read, "pot": pot_read, "taste": taste_read, "drop": one_number_read, "turn": sorts_read,
    "back": nothing_read, "house": nothing_read, "fault": nothing_read, "wants": one_number_read, "turns": nothing_read,
    "run": mishaps_read, "fewest": nothing_read, "pick": text_read,
}
DEEDS = {
    "evening": with_evening, "pot": with_recipe, "taste": with_tasting, "drop": without_recipe, "turn": with_turn,
}
LOOKS = {
    "house": tell_house, "fault": tell_fault, "wants": tell_wants, "turns": tell_turns, "run": tell_run,
    "fewest": tell_fewest, "pick": tell_pick,
}


def row_read(row):
    """The first word of a row, and what the words behind it tell; what is no row is refused."""
    words = row.split(" ") if isinstance(row, str) else [""]
    if "" in words or words[0] not in READERS:
        raise NoRow("this is no row")
    reader = READERS[words[0]]
    told = reader(words[1:])
    if told is None:
        raise NoRow("this is no row of its kind")
    return words[0], told


class Desk:
    """A house and an order, told and asked in rows."""

    def __init__(self):
        self.home = ((1,), (), ())
        self.turns = ()
        self.past = []

    def say(self, row):
        """The answer to a row."""
        word, told = row_read(row)
        if word in LOOKS:
            look = LOOKS[word]
            return look(self.home, self.turns, told)
        if word == "back":
            refuse_no_deed(self.past)
            self.home, self.turns = self.past.pop()
        else:
            self.do_deed(word, told)
        return "ok"

    def do_deed(self, word, told):
        """A deed is done; what was ahead of it is kept, for it may be undone."""
        deed = DEEDS[word]
        house, order = deed(self.home, self.turns, told)
        refuse_no_house(house)
        self.past.append((self.home, self.turns))
        self.home, self.turns = house, order
