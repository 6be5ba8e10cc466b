"""Walks: the runs of walkers, and what they tell."""

from sameroom.running import course
from sameroom.walkers import walker


def walk_outcome(code, given, *, rotation=None, homeward="tour"):
    """The outcome number that the walker has in its answer cell when it is home."""
    _, _, final = course(walker(code, rotation=rotation, homeward=homeward), given)
    return final[1][-1]


def walk_steps(code, given, *, rotation=None, homeward="tour"):
    """The number of steps that the walker makes until it is home."""
    return course(walker(code, rotation=rotation, homeward=homeward), given)[1]
