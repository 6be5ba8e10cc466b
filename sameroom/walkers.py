"""Walkers: every code as a book that can be undone, with one cell more for the answer."""

from sameroom.books import Book, inverse_rule
from sameroom.rotations import rotation_or_plain
from sameroom.rulemaking import plain_rule
from sameroom.walkerrules import WalkerRules
from sameroom.ways import BEGIN, FIRST_PLACE, HOME, first_places

ANSWER_IS_OPEN = ("=", "answer", 0)
ANSWER_IS_TOLD = ("!=", "answer", 0)


def place_of(code, line, finger):
    """The place of a finger of a line in the walker of the code."""
    return first_places(code)[line] + finger


def finger_at(code, place):
    """The pair (line, finger) of a place, or None for the begin and home."""
    firsts = first_places(code)
    for line in range(len(code.lines)):
        if firsts[line] <= place < firsts[line + 1]:
            return (line, place - firsts[line])
    return None


def _sent_back(rule, many):
    """A rule of the way there, for a walker that returns once the answer is told; `many` is the number of fingers."""
    place, guard, cell, old, new, after, shows = rule
    if cell == "answer":
        # Each such rule stands at the place of a finger 0, and turns round there.
        return (place, guard, cell, old, new, place + many, shows)
    if after == HOME:
        return (place, ("and", guard, ANSWER_IS_OPEN), cell, old, new, after, shows)
    return rule


def _way_back(rule, many):
    """The inverse of a rule of the way there, with the places of the way back."""
    place, guard, cell, old, new, after, shows = inverse_rule(rule)
    return (place + many, guard, cell, old, new, after + many, shows)


def _with_way_back(rules, many):
    """The rules of a walker that returns, made from those of one that goes on along its tour."""
    there = [_sent_back(rule, many) for rule in rules]
    begin = rules[0]
    back = [plain_rule(begin[5] + many, ("and", begin[1], ANSWER_IS_TOLD), HOME)]
    for rule in rules[1:]:
        if rule[2] != "answer" and rule[5] != HOME:
            back.append(_way_back(rule, many))
    return there + back


def _made_walker(code, rotation, homeward, helpers):
    """The walker of a code; `helpers` are the pairs of the names and the walkers of its helpers."""
    rules = WalkerRules(code, rotation).rules
    places = first_places(code)[-1]
    if homeward == "return":
        many = places - FIRST_PLACE
        rules = _with_way_back(rules, many)
        places = places + many
    cells = code.cells + (("answer", 1 + code.answers + len(code.lines), 0),)
    return Book(code.given, cells, places, tuple(rules), helpers, BEGIN, HOME)


def _known_walker(code, made):
    """The walker of a code in the plain rotation; `made` is a list of codes whose walkers are kept, and grows."""
    if code.kept_walker() is None:
        # Equal codes share one walker, and with it what it keeps: a code may ask the same one in many ways.
        for other in made:
            if other == code:
                code.keep_walker(other.kept_walker())
                return code.kept_walker()
        helpers = _known_walkers(code, made)
        code.keep_walker(_made_walker(code, code.plain_rotation(), "tour", helpers))
    made.append(code)
    return code.kept_walker()


def _known_walkers(code, made):
    """The pairs of the names and the walkers of the helpers of a code."""
    return tuple([(name, _known_walker(helper, made)) for name, helper in code.helpers])


def helper_walkers(code):
    """The helpers of a book that walks along a code: the walkers of the code's helpers, by their names."""
    return _known_walkers(code, [])


def walker(code, *, rotation=None, homeward="tour"):
    """The book that walks along a tour of the code and tells its outcome number."""
    if rotation is None and homeward == "tour":
        return _known_walker(code, [])
    return _made_walker(code, rotation_or_plain(code, rotation), homeward, helper_walkers(code))
