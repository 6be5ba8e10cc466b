"""The tours along the fingers of a code, and the graph of its states."""

from sameroom.fingers import across
from sameroom.graphs import Graph
from sameroom.plain import all_states, next_state
from sameroom.rotations import rotation_or_plain


def step_on(code, given, pointer, rotation):
    """The next pointer of the tour: crosses, then turns to the finger after the one that it came by."""
    there, by = across(code, given, pointer[0], pointer[1])
    return (there, rotation.after(there[0], by))


def step_back(code, given, pointer, rotation):
    """The pointer from which `step_on` leads to this one."""
    state, finger = pointer
    return across(code, given, state, rotation.before(state[0], finger))


def onward(code, given, state, finger, *, rotation=None):
    """The next pointer of the tour."""
    return step_on(code, given, (state, finger), rotation_or_plain(code, rotation))


def backward(code, given, state, finger, *, rotation=None):
    """The pointer from which `onward` leads to this one."""
    return step_back(code, given, (state, finger), rotation_or_plain(code, rotation))


def tour_from(code, given, state, finger, *, rotation=None):
    """The pointers to which `onward` leads from this one, this one first."""
    turning = rotation_or_plain(code, rotation)
    first = (state, finger)
    yield first
    pointer = step_on(code, given, first, turning)
    while pointer != first:
        yield pointer
        pointer = step_on(code, given, pointer, turning)


def state_number(code, state):
    """The index of a state in the ascending order of all states."""
    number = state[0]
    for cell, value in zip(code.cells, state[1]):
        number = number * cell[1] + value
    return number


def numbered_state(code, number):
    """The state with this index in the ascending order of all states."""
    values = []
    for cell in code.cells[::-1]:
        values.append(number % cell[1])
        number = number // cell[1]
    return (number, tuple(values[::-1]))


def graph_of(code, given):
    """The graph of the states, by their numbers, in which each one's next is the next state."""
    nexts = [next_state(code, given, state) for state in all_states(code)]
    return Graph(tuple([None if state is None else state_number(code, state) for state in nexts]))
