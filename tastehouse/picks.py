"""Picks: which tastings are picked by words, spots and names, and their texts, of sound houses ([81] to [83])."""

from tastehouse.errors import NoPick, NoText
from tastehouse.faults import refuse_not_sound
from tastehouse.finding import spots_around
from tastehouse.houses import is_name, is_spot, is_tuple_of, is_word
from tastehouse.refusals import refuse_no_text
from tastehouse.signs import number_read, spot_read, spot_text
from tastehouse.wants import wants_of_tasting

MOST_DEEP = 12
MOST_PARTING_WORDS = 8
# How near each sign binds that can wait for what stands behind it; a bracket binds nothing.
BINDS = {"(": 0, "|": 1, "&": 2, "!": 3}
SIGNS = "!&|()"


def is_pick(house, thing):
    """Whether a thing of whatever kind is a pick of the house."""
    refuse_not_sound(house)
    return is_pick_of(house, thing)


def picked(house, pick):
    """The rising list of the tastings that a pick picks."""
    refuse_not_sound(house)
    refuse_no_pick(house, pick)
    return picked_of(house, pick)


def pick_text(house, pick):
    """The text that writes a pick."""
    refuse_not_sound(house)
    refuse_no_pick(house, pick)
    return text_of(pick)


def pick_read(house, text):
    """The pick that a text writes."""
    refuse_not_sound(house)
    refuse_no_text(text)
    pick = read_parts(parts_of(text))
    if not is_pick_of(house, pick):
        raise NoText("this text writes no pick of the house")
    return pick


def pick_alike(house, one, other):
    """Whether two picks pick the same tastings of the house."""
    refuse_not_sound(house)
    refuse_no_pick(house, one)
    refuse_no_pick(house, other)
    return picked_of(house, one) == picked_of(house, other)


def parting(one, other):
    """The fewest words, of several the first, of which a tasting would be picked by just one of two, or None."""
    ends = ends_of(one, MOST_DEEP) + ends_of(other, MOST_DEEP)
    if not all(is_word_end(end) for end in ends):
        raise NoPick("this is no pick of words alone")
    words = sorted({end[1] for end in ends})
    if len(words) > MOST_PARTING_WORDS:
        raise NoPick(f"these picks have more than {MOST_PARTING_WORDS} unlike words together")
    choices = choices_of_words(words)
    truths_of = {("word", word): [word in choice for choice in choices] for word in words}
    for choice, by_one, by_other in zip(choices, truths(one, truths_of), truths(other, truths_of)):
        if by_one != by_other:
            return choice
    return None


def refuse_no_pick(house, thing):
    """Refuses what is no pick of the house."""
    if not is_pick_of(house, thing):
        raise NoPick("this is no pick of the house")


def is_pick_of(house, thing):
    """What is_pick tells, of a house that is looked at already."""
    return all(is_end(house, end) for end in ends_of(thing, MOST_DEEP))


def ends_of(thing, levels):
    """What stands in a thing of whatever kind where its nots, ands and ors end, None for what is deeper than let."""
    if levels == 0:
        return [None]
    if not is_joined(thing):
        return [thing]
    return [end for part in thing[1:] for end in ends_of(part, levels - 1)]


def is_joined(thing):
    """Whether a thing of whatever kind is a not, an and or an or of whatever things."""
    if not is_tuple_of(thing, 2, 3):
        return False
    return thing[0] == "not" if len(thing) == 2 else thing[0] in ("and", "or")


def is_end(house, thing):
    """Whether a thing of whatever kind is a pick of one word, spot or name."""
    if not is_tuple_of(thing, 2, 2):
        return False
    kind, told = thing
    if kind == "at":
        return is_spot(house, told)
    return is_word_end(thing) or kind == "wants" and is_name(told)


def is_word_end(thing):
    """Whether a thing of whatever kind is a pick of one word."""
    return is_tuple_of(thing, 2, 2) and thing[0] == "word" and is_word(thing[1])


def picked_of(house, pick):
    """What picked tells, of a house and a pick that are looked at already."""
    facts = [facts_of(house, tasting) for tasting in range(len(house[2]))]
    truths_of = {end: [end in fact for fact in facts] for end in ends_of(pick, MOST_DEEP)}
    return [tasting for tasting, truth in enumerate(truths(pick, truths_of)) if truth]


def facts_of(house, tasting):
    """The picks of one word, spot or name that pick a tasting."""
    spot, needs, words = house[2][tasting]
    names = [house[1][recipe][0] for recipe in wants_of_tasting(house, tasting)]
    at_spots = [("at", around) for around in spots_around(spot)]
    return [("word", word) for word in words] + at_spots + [("wants", name) for name in names]


def truths(pick, truths_of):
    """For each of several tastings whether a pick picks it, by what is told so of its words, spots and names."""
    if not is_joined(pick):
        return truths_of[pick]
    firsts = truths(pick[1], truths_of)
    if pick[0] == "not":
        return [not first for first in firsts]
    seconds = truths(pick[2], truths_of)
    if pick[0] == "and":
        return [first and second for first, second in zip(firsts, seconds)]
    return [first or second for first, second in zip(firsts, seconds)]


def choices_of_words(words):
    """All rising tuples of some of the rising words, those with the fewest first, of these as tuples compare."""
    choices = [()]
    for word in words:
        choices = choices + [(*choice, word) for choice in choices]
    return sorted(choices, key=fewest_first)


def fewest_first(choice):
    """What a choice of words is sorted by."""
    return (len(choice), choice)


def text_of(pick):
    """What pick_text tells, of a pick that is looked at already."""
    kind = pick[0]
    if kind == "word":
        return pick[1]
    if kind == "at":
        return spot_text(pick[1])
    if kind == "wants":
        return "#" + str(pick[1])
    if kind == "not":
        return "!" + text_within(pick[1], ("and", "or"))
    if kind == "and":
        return text_within(pick[1], ("or",)) + " & " + text_within(pick[2], ("and", "or"))
    return text_of(pick[1]) + " | " + text_within(pick[2], ("or",))


def text_within(pick, bracketed):
    """The text of a pick within another one, in brackets where it is of the kinds told."""
    return f"({text_of(pick)})" if pick[0] in bracketed else text_of(pick)


def parts_of(text):
    """The parts of a text, without the blanks about them."""
    spaced = text
    for sign in SIGNS:
        spaced = spaced.replace(sign, f" {sign} ")
    return [part for part in spaced.split(" ") if part != ""]


def read_parts(parts):
    """The pick that parts write; where they write none, what is no pick."""
    # Not by calls within one another: a text may have more brackets than calls are let to be deep.
    picks = []
    waiting = []
    is_behind_pick = False
    for part in parts:
        if is_behind_pick:
            if part not in ("&", "|", ")") or not take_sign(picks, waiting, part):
                return None
            is_behind_pick = part == ")"
        elif part in ("!", "("):
            waiting.append(part)
        else:
            picks.append(read_end(part))
            is_behind_pick = True
    if not is_behind_pick or "(" in waiting:
        return None
    join_waiting(picks, waiting, BINDS["|"])
    return picks[0]


def take_sign(picks, waiting, sign):
    """A sign behind a pick is taken: an and, an or, or a closing bracket; False where that closes none."""
    if sign != ")":
        join_waiting(picks, waiting, BINDS[sign])
        waiting.append(sign)
        return True
    join_waiting(picks, waiting, BINDS["|"])
    if not waiting:
        return False
    waiting.pop()
    return True


def join_waiting(picks, waiting, least):
    """The signs that wait last and bind at least so near are done with: the last picks are joined by them."""
    while waiting and BINDS[waiting[-1]] >= least:
        sign = waiting.pop()
        last = picks.pop()
        if sign == "!":
            picks.append(("not", last))
        else:
            picks.append(("and" if sign == "&" else "or", picks.pop(), last))


def read_end(part):
    """The pick of one word, spot or name that a part writes; of a part that writes none what is no pick either."""
    if part.startswith("@"):
        return ("at", spot_read(part))
    if part.startswith("#"):
        return ("wants", number_read(part[1:]))
    return ("word", part)
