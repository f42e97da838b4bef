"""The refusals: one class for each, straight under TasteError ([5])."""


class TasteError(ValueError):
    """Any refusal."""


class NoHouse(TasteError):
    """What comes of a deed is no house."""


class NoSpot(TasteError):
    """No spot of the house."""


class NoRecipe(TasteError):
    """No number of a recipe of the house."""


class NoTasting(TasteError):
    """No number of a tasting of the house."""


class NoTurn(TasteError):
    """No turn of the house."""


class NoOrder(TasteError):
    """No order of the house."""


class NoMishaps(TasteError):
    """No mishaps."""


class NoPick(TasteError):
    """No pick of the house."""


class NoNumber(TasteError):
    """No whole number, or none of those let."""


class NoList(TasteError):
    """No list of what was done in a run."""


class NoTruth(TasteError):
    """Neither True nor False."""


class NoWord(TasteError):
    """None of the words let."""


class NoText(TasteError):
    """No text that can be read."""


class NoRow(TasteError):
    """No row that a desk can be told."""


class NoDeed(TasteError):
    """No deed that could be undone."""


class NotSound(TasteError):
    """The house is not sound."""


class NotThere(TasteError):
    """Nothing has that number."""


class NotDue(TasteError):
    """Nothing of the kind is due."""


class TooMany(TasteError):
    """More than are let."""
