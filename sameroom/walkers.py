"""Walkers: every code as a book that can be undone, with one cell more for the answer."""

from sameroom.books import Book, inverse_rule
from sameroom.rotations import Rotation
from sameroom.walkerrules import BEGIN, FIRST_PLACE, HOME, WalkerRules, first_places, plain_rule

ANSWER_IS_OPEN = ("=", "answer", 0)
ANSWER_IS_TOLD = ("!=", "answer", 0)


def place_of(code, line, finger):
    """The place of a finger of a line in the walker of the code."""
    return first_places(code)[line] + finger


def finger_at(code, place):
    """The pair (line, finger) of a place, or None for the begin and home."""
    firsts = first_places(code)
    for line in range(len(code.lines)):
        if firsts[line] <= place < firsts[line + 1]:
            return (line, place - firsts[line])
    return None


def _sent_back(rule, many):
    """A rule of the way there, for a walker that returns once the answer is told; `many` is the number of fingers."""
    place, guard, cell, old, new, after, shows = rule
    if cell == "answer":
        # Each such rule stands at the place of a finger 0, and turns round there.
        return (place, guard, cell, old, new, place + many, shows)
    if after == HOME:
        return (place, ("and", guard, ANSWER_IS_OPEN), cell, old, new, after, shows)
    return rule


def _way_back(rule, many):
    """The inverse of a rule of the way there, with the places of the way back."""
    place, guard, cell, old, new, after, shows = inverse_rule(rule)
    return (place + many, guard, cell, old, new, after + many, shows)


def _with_way_back(rules, many):
    """The rules of a walker that returns, made from those of one that goes on along its tour."""
    there = [_sent_back(rule, many) for rule in rules]
    begin = rules[0]
    back = [plain_rule(begin[5] + many, ("and", begin[1], ANSWER_IS_TOLD), HOME)]
    for rule in rules[1:]:
        if rule[2] != "answer" and rule[5] != HOME:
            back.append(_way_back(rule, many))
    return there + back


def _made_walker(code, rotation, homeward, made):
    """The walker of a code; `made` is a list of pairs of a helper code and its walker, which gets the new ones."""
    helpers = tuple([(name, _helper_walker(helper, made)) for name, helper in code.helpers])
    rules = WalkerRules(code, rotation).rules
    places = first_places(code)[-1]
    if homeward == "return":
        many = places - FIRST_PLACE
        rules = _with_way_back(rules, many)
        places = places + many
    cells = code.cells + (("answer", 1 + code.answers + len(code.lines), 0),)
    return Book(code.given, cells, places, tuple(rules), helpers, BEGIN, HOME)


def _helper_walker(code, made):
    # Equal helpers share one walker, and with it what it keeps: a code may ask the same one in many ways.
    for other, book in made:
        if other == code:
            return book
    book = _made_walker(code, Rotation(code), "tour", made)
    made.append((code, book))
    return book


def walker(code, *, rotation=None, homeward="tour"):
    """The book that walks along a tour of the code and tells its outcome number."""
    return _made_walker(code, Rotation(code) if rotation is None else rotation, homeward, [])
