"""Graphs in which each node has one next node or none, and the tours along their edges."""

from sameroom.errors import BadGraph, BadRotation
from sameroom.turning import finger_after, finger_before


def _nodes_before(nexts):
    """For each node the tuple of its predecessors, ascending."""
    rows = [[] for _ in nexts]
    for node, onward in enumerate(nexts):
        if onward is not None:
            rows[onward].append(node)
    return tuple([tuple(row) for row in rows])


class Graph:
    """Nodes with at most one next each, and the order in which the fingers of each node follow one another."""

    def __init__(self, nexts, rotation=None):
        for node, onward in enumerate(nexts):
            if onward is not None and not 0 <= onward < len(nexts):
                raise BadGraph(node)
        self.nexts = nexts
        self._before = _nodes_before(nexts)
        plain = tuple([tuple(range(len(row) + 1)) for row in self._before])
        self.rotation = plain if rotation is None else rotation
        for node, row in enumerate(self.rotation):
            if tuple(sorted(row)) != plain[node]:
                raise BadRotation(node)

    def nodes_before(self, node):
        """The predecessors of a node, ascending."""
        return self._before[node]


def graph_predecessors(graph, node):
    """The nodes whose next is this one, ascending."""
    return graph.nodes_before(node)


def graph_across(graph, node, finger):
    """The pointer at the other side of the edge at which a finger points; the same one if it is blind."""
    if finger > 0:
        return (graph.nodes_before(node)[finger - 1], 0)
    onward = graph.nexts[node]
    if onward is None:
        return (node, 0)
    return (onward, graph.nodes_before(onward).index(node) + 1)


def graph_after(graph, node, finger):
    """The finger after this one in the row of the node."""
    return finger_after(graph.rotation[node], finger)


def graph_before(graph, node, finger):
    """The finger before this one in the row of the node."""
    return finger_before(graph.rotation[node], finger)


def graph_onward(graph, node, finger):
    """The next pointer of the tour: crosses, then turns to the finger after the one that it came by."""
    there, by = graph_across(graph, node, finger)
    return (there, graph_after(graph, there, by))


def graph_backward(graph, node, finger):
    """The pointer from which `graph_onward` leads to this one."""
    return graph_across(graph, node, graph_before(graph, node, finger))


def graph_tour(graph, node, finger):
    """The pointers to which `graph_onward` leads from this one, this one first."""
    tour = [(node, finger)]
    pointer = graph_onward(graph, node, finger)
    while pointer != tour[0]:
        tour.append(pointer)
        pointer = graph_onward(graph, pointer[0], pointer[1])
    return tuple(tour)


def graph_tours(graph):
    """All tours, each from its least pointer on, in ascending order of these."""
    tours = []
    met = set()
    for node, row in enumerate(graph.rotation):
        for finger in range(len(row)):
            if (node, finger) not in met:
                tour = graph_tour(graph, node, finger)
                tours.append(tour)
                for pointer in tour:
                    met.add(pointer)
    return tuple(tours)


def graph_ends(graph):
    """The nodes without a next, ascending."""
    return tuple([node for node, onward in enumerate(graph.nexts) if onward is None])


def _cycle_of(graph, node):
    """The cycle on which a node lies, from its least node on."""
    cycle = [node]
    onward = graph.nexts[node]
    while onward != node:
        cycle.append(onward)
        onward = graph.nexts[onward]
    at = cycle.index(min(cycle))
    return tuple(cycle[at:] + cycle[:at])


def graph_cycles(graph):
    """All cycles, each from its least node on, in ascending order of these."""
    cycles = []
    # For each node that was met the node from which it was met first.
    met = {}
    for begin in range(len(graph.nexts)):
        node = begin
        while node is not None and node not in met:
            met[node] = begin
            node = graph.nexts[node]
        # Only where a run comes back to a node of its own, it has found a cycle that was not known.
        if node is not None and met[node] == begin:
            cycles.append(_cycle_of(graph, node))
    return tuple(sorted(cycles))


def graph_component(graph, node):
    """The nodes that can be reached from this one along edges in either direction, ascending."""
    met = {node: True}
    todo = [node]
    while todo:
        here = todo.pop()
        beside = list(graph.nodes_before(here))
        if graph.nexts[here] is not None:
            beside.append(graph.nexts[here])
        for other in beside:
            if other not in met:
                met[other] = True
                todo.append(other)
    return tuple(sorted(met))
