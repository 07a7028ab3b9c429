"""Tasks and plans read from texts."""

from whilemoved.errors import NoText, Wrong
from whilemoved.forms import is_integer, is_needs, is_right, is_stretch

NAMES = ("needs", "old", "wish")
EMPTY = ("", "-", ".")
MOST_DIGITS = 9
# No need, value or place is below 0, so what is no integer can be read as one that is bad everywhere.
NO_NUMBER = -1


def rows_of(text):
    """The list of the lines that have words, each as a tuple of its index and its words."""
    rows = []
    for index, line in enumerate(text.split("\n")):
        # Only blanks stand between words, so split() is not asked for white space of all kinds.
        words = [word for word in line.partition("#")[0].split(" ") if word != ""]
        if len(words) > 0:
            rows.append((index, words))
    return rows


def number_of(word):
    """The integer that a word shows as Python does, NO_NUMBER for any other word."""
    if word == "" or len(word) > MOST_DIGITS:
        return NO_NUMBER
    if not all([sign in "0123456789" for sign in word]):
        return NO_NUMBER
    if word[0] == "0" and word != "0":
        return NO_NUMBER
    return int(word)


def items_of(words, empty):
    return tuple([None if word == empty else number_of(word) for word in words])


def is_good(told, items):
    """Whether items may stand in the line that comes behind the lines already told."""
    if len(told) == 0:
        return is_needs(items)
    if len(told) == 2 and len(items) != len(told[1]):
        return False
    return is_right(told[0], items)


def read_task(text):
    if not isinstance(text, str):
        raise Wrong(0)
    told = []
    for index, words in rows_of(text):
        at = len(told)
        if at == len(NAMES) or words[0] != NAMES[at]:
            raise NoText(index)
        items = items_of(words[1:], EMPTY[at])
        if not is_good(told, items):
            raise NoText(index)
        told.append(items)
    if len(told) < len(NAMES):
        raise NoText(text.count("\n") + 1)
    return tuple(told)


def copy_of(word):
    place, _, source = word.partition("<")
    return (number_of(place), number_of(source))


def read_plan(many, text):
    if not is_integer(many) or many < 0:
        raise Wrong(0)
    if not isinstance(text, str):
        raise Wrong(1)
    plan = []
    for index, words in rows_of(text):
        stretch = tuple(sorted([copy_of(word) for word in words]))
        if not is_stretch(many, stretch):
            raise NoText(index)
        plan.append(stretch)
    return tuple(plan)
