"""Graphs and their tours: points 34 to 37."""

import itertools
import random
import unittest

from sameroom.graphs import (
    Graph, graph_across, graph_after, graph_backward, graph_before, graph_component, graph_cycles, graph_ends, graph_onward,
    graph_predecessors, graph_tour, graph_tours,
)
from tests.helping import is_plain, told

FAR = 10 ** 30
# An end with several predecessors; a node that is its own next and has others; a cycle of three with a way into it.
MIXED = Graph((None, 0, 0, 3, 3, 4, 8, 6, 7, 6))


def small_graphs(most):
    for count in range(1, most + 1):
        for nexts in itertools.product((None, *range(count)), repeat=count):
            yield nexts


def plain_rows(nexts):
    return tuple(tuple(range(1 + nexts.count(node))) for node in range(len(nexts)))


def chance_rows(chance, nexts):
    return tuple(tuple(chance.sample(row, len(row))) for row in plain_rows(nexts))


def chance_nexts(chance, count):
    return tuple(chance.choice((None, *[chance.randrange(count) for _ in range(chance.randrange(1, 9))])) for _ in range(count))


def slow_sides(nexts):
    """The two sides of each edge, as pairs of pointers, straight from the words of the document."""
    sides = []
    for node, onward in enumerate(nexts):
        if onward is not None:
            before = [other for other in range(len(nexts)) if nexts[other] == onward]
            sides.append(((node, 0), (onward, 1 + before.index(node))))
    return sides


def slow_across(nexts):
    across = {(node, finger): (node, finger) for node, row in enumerate(plain_rows(nexts)) for finger in row}
    for one, two in slow_sides(nexts):
        across[one], across[two] = two, one
    return across


def slow_onward(nexts, rows):
    """For each pointer the next one of its tour."""
    return {
        pointer: (node, (rows[node] * 2)[rows[node].index(finger) + 1])
        for pointer, (node, finger) in slow_across(nexts).items()
    }


def slow_tours(nexts, rows):
    onward = slow_onward(nexts, rows)
    tours = []
    while onward:
        pointer = min(onward)
        tour = []
        while pointer in onward:
            tour.append(pointer)
            pointer = onward.pop(pointer)
        tours.append(tuple(tour))
    return tuple(tours)


def slow_component(nexts, node):
    found = {node}
    while True:
        more = {nexts[here] for here in found} | {here for here in range(len(nexts)) if nexts[here] in found}
        more -= found | {None}
        if not more:
            return tuple(sorted(found))
        found |= more


def slow_cycles(nexts):
    cycles = set()
    for node in range(len(nexts)):
        here, path = node, []
        while here is not None and here not in path:
            path.append(here)
            here = nexts[here]
        if here == node and node == min(path):
            cycles.add(tuple(path))
    return tuple(sorted(cycles))


class FieldTest(unittest.TestCase):
    def test_fields(self):
        graph = Graph((1, None, 1), ((0,), (2, 0, 1), (0,)))
        self.assertEqual((graph.nexts, graph.rotation), ((1, None, 1), ((0,), (2, 0, 1), (0,))))
        self.assertEqual(Graph((1, None, 1)).rotation, ((0,), (0, 1, 2), (0,)))
        self.assertEqual(Graph((1, None, 1), None).rotation, ((0,), (0, 1, 2), (0,)))
        named = Graph(rotation=((0,), (2, 0, 1), (0,)), nexts=(1, None, 1))
        self.assertEqual((named.nexts, named.rotation), (graph.nexts, graph.rotation))
        self.assertTrue(is_plain((MIXED.nexts, MIXED.rotation)))

    def test_fields_stay(self):
        before = (MIXED.nexts, MIXED.rotation)
        graph_tours(MIXED)
        graph_cycles(MIXED)
        graph_component(MIXED, 3)
        self.assertEqual((MIXED.nexts, MIXED.rotation), before)


class BadGraphTest(unittest.TestCase):
    def test_nexts(self):
        for wrong in (-1, -2, 3, 4, FAR, -FAR):
            self.assertEqual(told(Graph, (wrong, 0, 1)), ("BadGraph", {"node": 0}))
            self.assertEqual(told(Graph, (0, 1, wrong)), ("BadGraph", {"node": 2}))
            self.assertEqual(told(Graph, (None, wrong, wrong)), ("BadGraph", {"node": 1}))
        self.assertEqual(told(Graph, (1,)), ("BadGraph", {"node": 0}))
        for right in (None, 0, 1, 2):
            self.assertEqual(Graph((right, 2, None)).nexts[0], right)

    def test_before_the_rotation(self):
        for rotation in (None, ((), (), ()), ((0,), (0,), (0,))):
            self.assertEqual(told(Graph, (0, 1, 3), rotation), ("BadGraph", {"node": 2}))

    def test_rows(self):
        nexts = (1, None, 1, 0)
        right = ((0, 1), (2, 0, 1), (0,), (0,))
        self.assertEqual(Graph(nexts, right).rotation, right)
        wrong_rows = (
            (), (0,), (0, 1), (0, 2), (1, 2), (0, 1, 1), (0, 1, 3), (0, 1, 2, 3), (0, 1, 2, 2), (0, 0, 1, 2), (-1, 0, 1), (0, 1, -FAR),
            (FAR, 0, 1), (0, 1, 2, FAR), (1, 2, 3),
        )
        for row in wrong_rows:
            self.assertEqual(told(Graph, nexts, (right[0], row, *right[2:])), ("BadRotation", {"at": 1}), row)
            self.assertEqual(told(Graph, nexts, (right[0], row, (), (1,))), ("BadRotation", {"at": 1}), row)
        for at in range(4):
            self.assertEqual(told(Graph, nexts, (*right[:at], (), *right[at + 1:])), ("BadRotation", {"at": at}))
            self.assertEqual(told(Graph, nexts, (*right[:at], (*right[at], 0), *right[at + 1:])), ("BadRotation", {"at": at}))
        for row in itertools.permutations((0, 1, 2)):
            self.assertEqual(Graph(nexts, (right[0], row, *right[2:])).rotation[1], row)
        # An end has its blind finger, and a node that is its own next has two fingers.
        self.assertEqual(told(Graph, (None,), ((),)), ("BadRotation", {"at": 0}))
        self.assertEqual(told(Graph, (None,), ((0, 1),)), ("BadRotation", {"at": 0}))
        self.assertEqual(told(Graph, (0,), ((0,),)), ("BadRotation", {"at": 0}))
        self.assertEqual(Graph((0,), ((1, 0),)).rotation, ((1, 0),))

    def test_rotation_at_many_nodes(self):
        chance = random.Random(35)
        for _ in range(200):
            nexts = chance_nexts(chance, chance.randrange(1, 9))
            rows = list(chance_rows(chance, nexts))
            at = chance.randrange(len(rows))
            rows[at] = chance.choice((rows[at][1:], rows[at] + (0,), rows[at][:-1] + (len(rows[at]),), rows[at][:-1] + (-1,)))
            self.assertEqual(told(Graph, nexts, tuple(rows)), ("BadRotation", {"at": at}))


class PointerTest(unittest.TestCase):
    def check(self, nexts, rows):
        graph = Graph(nexts, rows)
        self.assertEqual((graph.nexts, graph.rotation), (nexts, rows))
        across, onward = slow_across(nexts), slow_onward(nexts, rows)
        for node, finger in across:
            there = graph_across(graph, node, finger)
            self.assertEqual(there, across[node, finger])
            self.assertEqual(graph_across(graph, *there), (node, finger))
            after = graph_after(graph, node, finger)
            self.assertEqual(after, (rows[node] * 2)[rows[node].index(finger) + 1])
            self.assertEqual(graph_before(graph, node, after), finger)
            self.assertEqual(graph_after(graph, node, graph_before(graph, node, finger)), finger)
            self.assertEqual(graph_onward(graph, node, finger), onward[node, finger])
            self.assertEqual(graph_backward(graph, *onward[node, finger]), (node, finger))
            self.assertEqual(graph_onward(graph, *graph_backward(graph, node, finger)), (node, finger))
        for node in range(len(nexts)):
            self.assertEqual(graph_predecessors(graph, node), tuple(other for other in range(len(nexts)) if nexts[other] == node))
            self.assertEqual(graph_component(graph, node), slow_component(nexts, node))

    def test_small_graphs(self):
        chance = random.Random(36)
        for nexts in small_graphs(4):
            self.check(nexts, plain_rows(nexts))
            self.check(nexts, chance_rows(chance, nexts))

    def test_by_chance(self):
        chance = random.Random(37)
        for _ in range(150):
            nexts = chance_nexts(chance, chance.randrange(1, 16))
            self.check(nexts, chance_rows(chance, nexts))

    def test_own_next(self):
        graph = Graph((0, 0, 0))
        self.assertEqual(graph_predecessors(graph, 0), (0, 1, 2))
        self.assertEqual([graph_across(graph, 0, finger) for finger in range(4)], [(0, 1), (0, 0), (1, 0), (2, 0)])
        graph = Graph((2, None, 2))
        self.assertEqual([graph_across(graph, 2, finger) for finger in range(3)], [(2, 2), (0, 0), (2, 0)])

    def test_blind(self):
        graph = Graph((None, 0))
        self.assertEqual(graph_across(graph, 0, 0), (0, 0))
        self.assertEqual(graph_across(Graph((None,)), 0, 0), (0, 0))
        self.assertEqual(graph_onward(Graph((None,)), 0, 0), (0, 0))

    def test_kinds(self):
        for worth in (graph_predecessors(MIXED, 0), graph_ends(MIXED), graph_component(MIXED, 6), graph_cycles(MIXED),
                      graph_across(MIXED, 0, 1), graph_onward(MIXED, 0, 1), graph_backward(MIXED, 0, 1), graph_tour(MIXED, 0, 1),
                      graph_tours(MIXED), graph_after(MIXED, 0, 1), graph_before(MIXED, 0, 1)):
            self.assertTrue(is_plain(worth), worth)
        self.assertIs(type(graph_after(MIXED, 0, 1)), int)
        self.assertEqual((graph_ends(Graph((0,))), graph_cycles(Graph((None,))), graph_predecessors(Graph((None,)), 0)), ((), (), ()))

    def test_names(self):
        for function in (graph_across, graph_after, graph_before, graph_onward, graph_backward, graph_tour):
            self.assertEqual(function(finger=2, node=0, graph=MIXED), function(MIXED, 0, 2))
        for function in (graph_predecessors, graph_component):
            self.assertEqual(function(node=3, graph=MIXED), function(MIXED, 3))
        for function in (graph_ends, graph_cycles, graph_tours):
            self.assertEqual(function(graph=MIXED), function(MIXED))


class TourTest(unittest.TestCase):
    def check(self, nexts, rows):
        graph = Graph(nexts, rows)
        tours = graph_tours(graph)
        self.assertEqual(tours, slow_tours(nexts, rows))
        ends, cycles = graph_ends(graph), graph_cycles(graph)
        self.assertEqual(ends, tuple(node for node, onward in enumerate(nexts) if onward is None))
        self.assertEqual(cycles, slow_cycles(nexts))
        self.assertEqual(len(tours), len(ends) + 2 * len(cycles))
        pointers = [pointer for tour in tours for pointer in tour]
        self.assertEqual(sorted(pointers), [(node, finger) for node, row in enumerate(plain_rows(nexts)) for finger in row])
        of_pointer = {pointer: tour for tour in tours for pointer in tour}
        for end in ends:
            component = graph_component(graph, end)
            self.assertEqual(set(of_pointer[end, 0]), {(node, finger) for node in component for finger in rows[node]})
        for cycle in cycles:
            ahead, back = of_pointer[cycle[0], 0], of_pointer[graph_across(graph, cycle[-1], 0)]
            self.assertNotEqual(ahead, back)
            for node in cycle:
                self.assertIn((node, 0), ahead)
                self.assertIn(graph_across(graph, node, 0), back)
        for node in range(len(nexts)):
            component = graph_component(graph, node)
            self.assertEqual(len(set(ends) & set(component)) + sum(cycle[0] in component for cycle in cycles), 1)

    def test_small_graphs(self):
        chance = random.Random(38)
        for nexts in small_graphs(4):
            self.check(nexts, plain_rows(nexts))
            self.check(nexts, chance_rows(chance, nexts))

    def test_by_chance(self):
        chance = random.Random(39)
        for _ in range(200):
            nexts = chance_nexts(chance, chance.randrange(1, 20))
            self.check(nexts, chance_rows(chance, nexts))

    def test_from_any_pointer(self):
        chance = random.Random(40)
        for graph in (MIXED, Graph(MIXED.nexts, chance_rows(chance, MIXED.nexts))):
            for tour in graph_tours(graph):
                for at, pointer in enumerate(tour):
                    self.assertEqual(graph_tour(graph, *pointer), tour[at:] + tour[:at])

    def test_cycles(self):
        self.assertEqual(graph_cycles(Graph((2, None, 4, 3, 0))), ((0, 2, 4), (3,)))
        self.assertEqual(graph_cycles(Graph((3, 2, 1, 4, 5, 0, 6, 1))), ((0, 3, 4, 5), (1, 2), (6,)))
        # The ways into a cycle have lesser numbers than the cycle itself.
        self.assertEqual(graph_cycles(Graph((1, 4, 4, 2, 3))), ((2, 4, 3),))

    def test_equal_questions(self):
        first = (graph_tours(MIXED), graph_cycles(MIXED), graph_ends(MIXED), graph_tour(MIXED, 0, 1))
        graph_tours(Graph((0,)))
        self.assertEqual((graph_tours(MIXED), graph_cycles(MIXED), graph_ends(MIXED), graph_tour(MIXED, 0, 1)), first)


class LargeTest(unittest.TestCase):
    def test_chain(self):
        graph = Graph((*range(1, 1600), None))
        tour = graph_tour(graph, 0, 0)
        self.assertEqual(tour, tuple((node, 0) for node in range(1600)) + tuple((node, 1) for node in range(1599, 0, -1)))
        self.assertEqual(graph_component(graph, 800), tuple(range(1600)))
        self.assertEqual((graph_ends(graph), graph_cycles(graph), len(graph_tours(graph))), ((1599,), (), 1))

    def test_star(self):
        graph = Graph((None,) + (0,) * 1599, (tuple(range(1599, -1, -1)),) + ((0,),) * 1599)
        self.assertEqual(graph_predecessors(graph, 0), tuple(range(1, 1600)))
        self.assertEqual(len(graph_tour(graph, 0, 0)), 1600 + 1599)
        self.assertEqual(graph_tour(graph, 0, 0)[:4], ((0, 0), (0, 1599), (1599, 0), (0, 1598)))

    def test_ring(self):
        graph = Graph((*range(1, 1600), 0))
        self.assertEqual(graph_cycles(graph), (tuple(range(1600)),))
        self.assertEqual([len(tour) for tour in graph_tours(graph)], [1600, 1600])

    def test_ends(self):
        graph = Graph((None,) * 1600)
        self.assertEqual(graph_ends(graph), tuple(range(1600)))
        self.assertEqual(graph_tours(graph), tuple(((node, 0),) for node in range(1600)))


if __name__ == "__main__":
    unittest.main()
