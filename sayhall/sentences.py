"""Sentences of things by not, and, or: whether they are true in a case, and sayings that come to the same."""

from sayhall.errors import NoCase, NoSentence
from sayhall.sayings import is_case, is_from_one_to, is_so

MOST_SENTENCE_THINGS = 5
MOST_TUPLES = 12
LENGTH_BY_WORD = {"thing": 2, "not": 2, "and": 3, "or": 3}


def is_true(sentence, many, case):
    check_sentence(sentence, many)
    if not is_case(case, many):
        raise NoCase("a case must be a list of 0 and 1, one for each thing")
    return truth(sentence, case)


def check_sentence(sentence, many):
    if not is_from_one_to(many, MOST_SENTENCE_THINGS):
        raise NoSentence(f"the number of things must be whole, from 1 to {MOST_SENTENCE_THINGS}")
    found = 0
    waiting = [sentence]
    # One by one and not by calls within calls: what is handed in may be nested deeper than calls can go.
    while waiting:
        one = waiting.pop()
        if not has_form(one, many):
            raise NoSentence("what is handed in is no sentence of so many things")
        found += 1
        if found > MOST_TUPLES:
            raise NoSentence(f"a sentence has no more than {MOST_TUPLES} tuples")
        if one[0] != "thing":
            waiting.extend(one[1:])


# Of the tuple alone: the parts of one that is no thing are not looked at.
def has_form(one, many):
    if not isinstance(one, tuple) or len(one) == 0 or not isinstance(one[0], str):
        return False
    if len(one) != LENGTH_BY_WORD.get(one[0]):
        return False
    return one[0] != "thing" or is_from_one_to(one[1], many)


def truth(sentence, case):
    word = sentence[0]
    if word == "thing":
        return is_so(sentence[1], case)
    truths = [truth(part, case) for part in sentence[1:]]
    if word == "not":
        return not truths[0]
    return all(truths) if word == "and" else any(truths)


def sayings_of(sentence, many):
    check_sentence(sentence, many)
    rows = []
    whole = number_of(sentence, many, rows)
    sayings = [(whole,)]
    for number, row in enumerate(rows, start=many + 1):
        sayings.extend(tied(number, row[0], row[1]))
    return (sayings, many + len(rows))


# A tuple that is no thing is put among the rows when its parts are there: so the rows stand in order of their ends.
def number_of(sentence, many, rows):
    if sentence[0] == "thing":
        return sentence[1]
    numbers = [number_of(part, many, rows) for part in sentence[1:]]
    rows.append((sentence[0], numbers))
    return many + len(rows)


# Sayings by which the thing of this number is so just if the tuple with this word and these parts is true: told both
# ways, so that no more than one case fits.
def tied(number, word, parts):
    if word == "not":
        return [by_things([number, parts[0]]), by_things([-number, -parts[0]])]
    if word == "and":
        return [by_things([-number, part]) for part in parts] + [by_things([number] + [-part for part in parts])]
    return [by_things([number, -part]) for part in parts] + [by_things([-number] + parts)]


def by_things(parts):
    # A thing may stand on both sides of an "and" or an "or"; a saying has it once.
    return tuple(sorted(sorted(set(parts)), key=abs))
