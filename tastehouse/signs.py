"""Signs: numbers, spots and places as the texts of picks, houses, turns and lists write them ([82], [111], [112])."""

MOST_FIGURES = 40
MOST_SPOT_NUMBERS = 2


def number_read(text):
    """The number that a text writes, of forty figures at most, or None."""
    if not 1 <= len(text) <= MOST_FIGURES or not all("0" <= sign <= "9" for sign in text):
        return None
    number = int(text)
    # What has a nought ahead would be written otherwise.
    return number if str(number) == text else None


def numbers_read(texts):
    """The tuple of the numbers that texts write, or None where one of them writes none."""
    numbers = tuple(number_read(text) for text in texts)
    return None if None in numbers else numbers


def spot_text(spot):
    """The text of a spot, or of a place of a pot."""
    return "@" + ".".join(str(number) for number in spot)


def spot_read(text):
    """The spot that a text writes, whether a house has it or not, or None."""
    if text == "@":
        return ()
    numbers = numbers_read(text[1:].split("."))
    if not text.startswith("@") or numbers is None or len(numbers) > MOST_SPOT_NUMBERS:
        return None
    return numbers


def with_blanks_ahead(things):
    """The texts of numbers or words one behind the other, each with a blank ahead."""
    return "".join(f" {thing}" for thing in things)
