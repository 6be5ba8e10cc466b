"""Basins: the states of a code, sorted by what their runs come to."""

from sameroom.fingers import across
from sameroom.graphs import graph_component, graph_cycles, graph_ends
from sameroom.plain import all_states, cycle_from, end_number, next_state
from sameroom.tours import graph_of, numbered_state


def _cycle_heads(code, given):
    """The least state of each cycle, ascending."""
    heads = {}
    # For each state that was met the one from which it was met first.
    met = {}
    for begin in all_states(code):
        state = begin
        while state is not None and state not in met:
            met[state] = begin
            state = next_state(code, given, state)
        if state is not None and met[state] == begin:
            heads[min(cycle_from(code, given, state))] = True
        # A cycle is known at the latest when its least state is looked at.
        if begin in heads:
            yield begin


def _heads(code, given, number):
    """The heads of the components with this outcome number, ascending."""
    if number == 0:
        yield from _cycle_heads(code, given)
    else:
        for state in all_states(code):
            if end_number(code, given, state) == number:
                yield state


def _walked_origins(code, given, head):
    """The origins of a head in the order of the book that shows them, walked without making this book for each head."""
    rotation = code.plain_rotation()
    state = head
    finger = rotation.after(head[0], 0)
    while (state, finger) != (head, 0):
        there, by = across(code, given, state, finger)
        if by == 0 and there == head:
            # The edge ahead of the head is cut.
            there, by = (state, finger)
        elif by == 0:
            yield there
        state = there
        finger = rotation.after(there[0], by)


def states_with_outcome(code, given, number):
    """All states whose run has this outcome number: each head, followed by its origins."""
    for head in _heads(code, given, number):
        yield head
        yield from _walked_origins(code, given, head)


def _told_component(code, given, graph, node):
    """The head, the outcome number and the number of the states of the component whose head has this number."""
    head = numbered_state(code, node)
    number = end_number(code, given, head)
    return (head, 0 if number is None else number, len(graph_component(graph, node)))


def components(code, given):
    """The triples (head, outcome number, number of states) of all components, in ascending order of the heads."""
    graph = graph_of(code, given)
    heads = sorted([*graph_ends(graph), *[cycle[0] for cycle in graph_cycles(graph)]])
    return tuple([_told_component(code, given, graph, node) for node in heads])
