"""Texts of houses, turns and lists of runs ([111]). Turns and lists are of sound houses."""

from tastehouse.errors import NoText
from tastehouse.faults import refuse_not_sound
from tastehouse.houses import is_house, is_word
from tastehouse.refusals import refuse_no_text
from tastehouse.runs import run_list
from tastehouse.signs import number_read, numbers_read, spot_read, spot_text, with_blanks_ahead
from tastehouse.turns import is_turn_of, refuse_no_turn

# The words for 0 to 3.
KEEPS = ("one", "table", "evening", "house")
OF_TURNS = ("taste", "bad", "miss")


def house_text(house):
    """The text that writes a house."""
    tables, recipes, tastings = house
    lines = [recipe_text(recipe) for recipe in recipes] + [tasting_text(tasting) for tasting in tastings]
    return "\n".join(["tables" + with_blanks_ahead(tables), *lines])


def turn_text(house, turn):
    """The text that writes a turn."""
    refuse_not_sound(house)
    refuse_no_turn(house, turn)
    return text_of_turn(turn)


def list_text(house, order, mishaps, often):
    """The text of the list of a run, a line for each deed."""
    return "\n".join(deed_text(deed) for deed in run_list(house, order, mishaps, often))


def house_read(text):
    """The house that a text writes."""
    refuse_no_text(text)
    first, *lines = [line.split(" ") for line in text.split("\n")]
    recipes = tuple(recipe_read(words[1:]) for words in lines if words[0] == "pot")
    tastings = tuple(tasting_read(words[1:]) for words in lines if words[0] == "taste")
    house = (numbers_read(first[1:]), recipes, tastings)
    # Lines of other kinds or in another order are not seen above, but they are not written either.
    if not is_house(house) or house_text(house) != text:
        raise NoText("this text writes no house")
    return house


def turn_read(house, text):
    """The turn of a house that a text writes."""
    refuse_not_sound(house)
    refuse_no_text(text)
    first, *others = text.split(" ")
    turn = (number_read(first[:-1]), numbers_read(others))
    if not is_turn_of(house, turn) or text_of_turn(turn) != text:
        raise NoText("this text writes no turn of the house")
    return turn


def recipe_text(recipe):
    """The line that writes a recipe."""
    name, spot, keep, sorts, needs = recipe
    return f"pot {name} {spot_text(spot)} {KEEPS[keep]} {sorts} :{with_blanks_ahead(needs)}"


def tasting_text(tasting):
    """The line that writes a tasting."""
    spot, needs, words = tasting
    return f"taste {spot_text(spot)} :{with_blanks_ahead(needs)} :{with_blanks_ahead(words)}"


def text_of_turn(turn):
    """What turn_text tells, of a turn that is looked at already."""
    tasting, sorts = turn
    return f"{tasting}:{with_blanks_ahead(sorts)}"


def deed_text(deed):
    """The line that writes a deed of a list."""
    word, thing = deed
    if word in OF_TURNS:
        return f"{word} {text_of_turn(thing)}"
    recipe, place, sorts = thing
    return f"{word} {recipe} {spot_text(place)}{with_blanks_ahead(sorts)}"


def recipe_read(words):
    """The recipe that the words behind pot write, whether a house lets it or not, or None."""
    if len(words) < 5 or words[2] not in KEEPS or words[4] != ":":
        return None
    needs = numbers_read(words[5:])
    recipe = (number_read(words[0]), spot_read(words[1]), KEEPS.index(words[2]), number_read(words[3]), needs)
    return None if None in recipe else recipe


def tasting_read(words):
    """The tasting that the words behind taste write, whether a house lets it or not, or None."""
    places = [place for place, word in enumerate(words) if word == ":"]
    if len(places) != 2 or places[0] != 1:
        return None
    told = tuple(words[places[1] + 1:])
    tasting = (spot_read(words[0]), numbers_read(words[2:places[1]]), told)
    return tasting if None not in tasting and all(is_word(word) for word in told) else None
