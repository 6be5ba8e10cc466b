"""Clashes: two rules of a book that apply at one state, or that lead to one state."""

from sameroom.cells import all_values, value_count
from sameroom.errors import TooLarge
from sameroom.ready import ready_rule

MOST_SIZE = 40000


def _rules_by_state(book, ready_rules, given):
    """The indexes of the rules that apply at each state, and of those that lead to each state; two dicts of lists."""
    ahead = {}
    behind = {}
    for at, rule in enumerate(book.rules):
        for values in all_values(book.cells):
            after = book.result_of(ready_rules[at], book.known_values(given, values), values)
            if after is not None:
                ahead.setdefault((rule[0], values), []).append(at)
                behind.setdefault(after, []).append(at)
    return (ahead, behind)


def _least_clash(rules_of):
    """The least state that has two rules, and the first two of them; None if there is none."""
    states = [state for state, rules in rules_of.items() if len(rules) > 1]
    if not states:
        return None
    state = min(states)
    return (state, rules_of[state][0], rules_of[state][1])


def find_clash(book):
    """The first clash of a book as (side, given, state, one, two), or None if the book is reversible."""
    size = value_count(book.given) * value_count(book.cells) * len(book.rules)
    if size > MOST_SIZE:
        raise TooLarge(size)
    ready_rules = [ready_rule(rule, book.cells) for rule in book.rules]
    for given in all_values(book.given):
        ahead, behind = _rules_by_state(book, ready_rules, given)
        for side, rules_of in (("ahead", ahead), ("behind", behind)):
            clash = _least_clash(rules_of)
            if clash is not None:
                return (side, given, *clash)
    return None
