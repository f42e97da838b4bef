"""Picks by the words of [81] to [83] told once more, and picks and texts made to compare with them."""

import re

PARTS = re.compile(r"[a-z]{1,8}|@(?:(?:0|[1-9][0-9]*)(?:\.(?:0|[1-9][0-9]*))?)?|#(?:0|[1-9][0-9]*)|[!&|()]")


class NoPlainText(Exception):
    """What writes no pick."""


class PlainReader:
    """A reader that goes down from or to and to not."""

    def __init__(self, text):
        self.parts, at = [], 0
        while at < len(text):
            found = PARTS.match(text, at)
            if text[at] != " " and not found:
                raise NoPlainText(at)
            if found:
                self.parts.append(found.group())
            at = found.end() if found else at + 1

    def next(self):
        return self.parts[0] if self.parts else ""

    def take(self):
        if not self.parts:
            raise NoPlainText("the end")
        return self.parts.pop(0)

    def whole(self):
        pick = self.joined("|")
        if self.parts:
            raise NoPlainText(self.parts)
        return pick

    def joined(self, sign):
        def one():
            return self.joined("&") if sign == "|" else self.single()
        pick = one()
        while self.next() == sign:
            self.take()
            pick = ({"|": "or", "&": "and"}[sign], pick, one())
        return pick

    def single(self):
        part = self.take()
        if part == "!":
            return ("not", self.single())
        if part == "(":
            pick = self.joined("|")
            if self.take() != ")":
                raise NoPlainText("no bracket")
            return pick
        if part[0] == "@":
            return ("at", tuple(int(number) for number in part[1:].split(".") if number))
        if part[0] == "#":
            return ("wants", int(part[1:]))
        if part in "&|)":
            raise NoPlainText(part)
        return ("word", part)


def plain_read(house, text):
    """The pick that a text writes, or None."""
    try:
        pick = PlainReader(text).whole()
    except NoPlainText:
        return None
    return pick if deep(pick) <= 12 and all(is_let(house, end) for end in ends(pick)) else None


def deep(pick):
    return 1 + max([deep(part) for part in pick[1:]]) if pick[0] in ("not", "and", "or") else 1


def ends(pick):
    return sum([ends(part) for part in pick[1:]], []) if pick[0] in ("not", "and", "or") else [pick]


def is_let(house, end):
    kind, told = end
    if kind == "wants":
        return told < 8
    return kind == "word" or not told or told[0] < len(house[0]) and (len(told) == 1 or told[1] < house[0][told[0]])


def plain_picks(pick, words, spot=None, names=()):
    """Whether a pick picks a tasting with these words, at this spot, for which these names are wanted."""
    kind, *told = pick
    if kind == "not":
        return not plain_picks(told[0], words, spot, names)
    if kind in ("and", "or"):
        both = [plain_picks(part, words, spot, names) for part in told]
        return all(both) if kind == "and" else any(both)
    if kind == "at":
        return spot[:len(told[0])] == told[0]
    return told[0] in (words if kind == "word" else names)


def made_pick(chance, ends_let, levels):
    """A pick by chance, of these words, spots and names, at most so deep."""
    if levels == 1 or chance.random() < 0.2:
        return chance.choice(ends_let)
    kind = chance.choice(("not", "and", "or"))
    return (kind, *[made_pick(chance, ends_let, levels - 1) for part in range(1 if kind == "not" else 2)])


def loose_text(chance, pick):
    """A text of a pick with blanks and brackets more, as they come; round what is joined there are always some."""
    def blanks():
        return " " * chance.choice((0, 0, 0, 1, 1, 2, 5))
    kind, *told = pick
    if kind == "not":
        text = "!" + blanks() + within(loose_text(chance, told[0]), told[0])
    elif kind in ("and", "or"):
        one, other = [within(loose_text(chance, part), part) for part in told]
        text = one + blanks() + {"and": "&", "or": "|"}[kind] + blanks() + other
    elif kind == "at":
        text = "@" + ".".join(str(number) for number in told[0])
    else:
        text = told[0] if kind == "word" else f"#{told[0]}"
    while chance.random() < 0.2:
        text = "(" + blanks() + text + blanks() + ")"
    return blanks() + text + blanks()


def within(text, pick):
    return "(" + text + ")" if pick[0] in ("and", "or") else text


def without_each_bracket(text):
    """The text without one of its pairs of brackets, for each of them."""
    told, opened = [], []
    for at, sign in enumerate(text):
        if sign == "(":
            opened.append(at)
        if sign == ")":
            start = opened.pop()
            told.append(text[:start] + text[start + 1:at] + text[at + 1:])
    return told
