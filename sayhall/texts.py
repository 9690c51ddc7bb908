"""Sayings written as texts, a line each, and texts read back."""

from sayhall.errors import NoText
from sayhall.sayings import MOST_SAYINGS, MOST_THINGS, is_from_one_to, is_saying

NO_PARTS = "-"


def shown(sayings):
    return "".join([line_of(saying) + "\n" for saying in sayings])


def line_of(saying):
    return " ".join([str(part) for part in saying]) if saying else NO_PARTS


def read(text, many):
    if not is_from_one_to(many, MOST_THINGS):
        raise NoText(f"the number of things must be whole, from 1 to {MOST_THINGS}")
    if not isinstance(text, str):
        raise NoText("what should be read is no text")
    lines = text.split("\n")
    # Each line is ended by a line end, so nothing stands behind the last one.
    if lines.pop() != "":
        raise NoText("the last line has no line end")
    if len(lines) > MOST_SAYINGS:
        raise NoText(f"there are more than {MOST_SAYINGS} lines")
    part_by_word = words_of_parts(many)
    return [saying_of(line, part_by_word, many) for line in lines]


# Looked up and not reckoned: Python takes many other writings of a number too.
def words_of_parts(many):
    found = {}
    for thing in range(1, many + 1):
        for part in (thing, -thing):
            found[str(part)] = part
    return found


def saying_of(line, part_by_word, many):
    if line == NO_PARTS:
        return ()
    words = line.split(" ")
    if not all([word in part_by_word for word in words]):
        raise NoText(f"a line has other words than parts of {many} things with one blank between")
    saying = tuple([part_by_word[word] for word in words])
    if not is_saying(saying, many):
        raise NoText("the things of a line don't rise")
    return saying
