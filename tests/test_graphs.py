"""Points 53 to 58 and 60: graphs, their channels, where rows lie in them, and which are refused."""

import unittest

from tests.plain_graphs import PlainLies, plain_channels, plain_plan, plain_receiver
from tests.random_graphs import other_owners, other_ships, random_graph, random_owners, random_parallel
from tests.random_operators import random_row_of
from tests.random_plans import random_plan
from tests.support import ExactCase, generator_of_numbers
from tideweir.errors import InvalidGraph, InvalidPlan
from tideweir.graphs.graphs import channels_of, check_graph, fields_at, lies_of, owner_of, plan_of, tasks_of
from tideweir.graphs.laying import even_owners, lay_out
from tideweir.values.keys import group_of, key_of

ONE = (0,) * 16
TWO = (0,) * 8 + (1,) * 8
ODD = (0, 1) * 8
THREE = (0,) * 6 + (1,) * 5 + (2,) * 5
FIELDS = (("k", "text"), ("v", "whole"))
OTHER = (("j", "text"), ("w", "whole"))
SOURCE = ("source", "s", FIELDS)
SECOND = ("source", "t", OTHER)
SINK = (("sink",), 1, ONE)
ALL = ("filter", ("value", True))
GROUP = ("group", ("k", "v"), (("n", "count", None),))
JOIN = ("join", (("k", "j"), ("v", "w")))
TO = ("map", (("a", ("column", "v")), ("b", ("column", "k")), ("c", ("column", "k"))))


def chain(*nodes):
    """A graph of one-sided stages one behind the other: each an operator, owners, and how rows are shipped to it."""
    stages = [(operator, max(owners) + 1, owners) for operator, owners, _ in nodes] + [SINK]
    edges = [(k - 1, k, 0, ship) for k, (_, _, ship) in enumerate(nodes) if k > 0]
    return stages, edges + [(len(nodes) - 1, len(nodes), 0, "forward" if nodes[-1][1] == ONE else "one")]


def two_sided(operator, owners, ships, ahead=(TWO, TWO)):
    """A graph of a two-sided stage on two sources, with owners of both and of the stage."""
    stages = [(SOURCE, max(ahead[0]) + 1, ahead[0]), (SECOND, max(ahead[1]) + 1, ahead[1]),
              (operator, max(owners) + 1, owners), SINK]
    return stages, [(0, 2, 0, ships[0]), (1, 2, 1, ships[1]), (2, 3, 0, "one")]


class Parts(ExactCase):
    def test_the_plan(self):
        graph = chain((SOURCE, TWO, None), (ALL, TWO, "forward"), (GROUP, THREE, ("k",)))
        self.same(plan_of(graph), ((SOURCE, ()), (ALL, (0,)), (GROUP, (1,))))
        graph = two_sided(JOIN, TWO, (("k",), ("j",)))
        self.same(plan_of(graph), ((SOURCE, ()), (SECOND, ()), (JOIN, (0, 1))))
        stages, _ = graph
        turned = stages, [(1, 2, 0, ("j",)), (0, 2, 1, ("k",)), (2, 3, 0, "one")]
        self.same(plan_of(turned), ((SOURCE, ()), (SECOND, ()), (JOIN, (1, 0))))
        self.leaves_alone(plan_of, graph)

    def test_a_stage_that_is_both_inputs(self):
        graph = [(SOURCE, 2, TWO), (("union",), 2, TWO), SINK], [
            (0, 1, 0, "forward"), (0, 1, 1, ("k",)), (1, 2, 0, "one")]
        self.same(check_graph(graph), None)
        self.same(plan_of(graph), ((SOURCE, ()), (("union",), (0, 0))))

    def test_tasks(self):
        graph = chain((SOURCE, TWO, None), (ALL, THREE, ("v",)), (GROUP, ONE, "one"))
        self.same(tasks_of(graph), [(0, 0), (0, 1), (1, 0), (1, 1), (1, 2), (2, 0), (3, 0)])
        self.leaves_alone(tasks_of, graph)

    def test_channels(self):
        graph = chain((SOURCE, TWO, None), (ALL, THREE, ("v",)), (GROUP, THREE, "forward"))
        self.same(channels_of(graph), [
            (0, (0, 0), (1, 0)), (0, (0, 0), (1, 1)), (0, (0, 0), (1, 2)),
            (0, (0, 1), (1, 0)), (0, (0, 1), (1, 1)), (0, (0, 1), (1, 2)),
            (1, (1, 0), (2, 0)), (1, (1, 1), (2, 1)), (1, (1, 2), (2, 2)),
            (2, (2, 0), (3, 0)), (2, (2, 1), (3, 0)), (2, (2, 2), (3, 0))])
        self.leaves_alone(channels_of, graph)

    def test_channels_of_two_sides(self):
        graph = two_sided(("union",), TWO, ("forward", ("j",)), (TWO, THREE))
        self.same(channels_of(graph), [
            (0, (0, 0), (2, 0)), (0, (0, 1), (2, 1)),
            (1, (1, 0), (2, 0)), (1, (1, 0), (2, 1)), (1, (1, 1), (2, 0)), (1, (1, 1), (2, 1)),
            (1, (1, 2), (2, 0)), (1, (1, 2), (2, 1)),
            (2, (2, 0), (3, 0)), (2, (2, 1), (3, 0))])

    def test_owners(self):
        graph = chain((SOURCE, ONE, None), (GROUP, ODD, ("k",)))
        for values in (("a",), ("b", 1), (None,), (True, False), ("", -3, "x")):
            self.same(owner_of(graph, 1, values), group_of(values) % 2)
            self.same(owner_of(graph, 0, values), 0)
            self.same(owner_of(graph, 2, values), 0)
        self.same(owner_of(([(ALL, 3, (2,) * 15 + (1,))], []), 0, (1,)), 1 if group_of((1,)) == 15 else 2)
        self.leaves_alone(owner_of, graph, 1, ("a",))

    def test_fields(self):
        graph = chain((SOURCE, TWO, None), (TO, TWO, "forward"), (("distinct",), TWO, ("a",)))
        changed = (("a", "whole"), ("b", "text"), ("c", "text"))
        self.same(fields_at(graph, 0), [])
        self.same(fields_at(graph, 1), [(FIELDS, "events")])
        self.same(fields_at(graph, 2), [(changed, "events")])
        self.same(fields_at(graph, 3), [(changed, "table")])
        self.same(fields_at(two_sided(JOIN, ONE, ("one", "one")), 2), [(FIELDS, "events"), (OTHER, "events")])
        self.leaves_alone(fields_at, graph, 2)

    def test_by_chance(self):
        for seed in range(150):
            graph = random_graph(generator_of_numbers(seed))
            self.same(plan_of(graph), plain_plan(graph))
            self.same(channels_of(graph), plain_channels(graph))


class Lies(ExactCase):
    def lies(self, graph, *wanted):
        self.same(lies_of(graph), list(wanted) + [(["all"], None)])
        self.leaves_alone(lies_of, graph)

    def test_sources(self):
        self.lies(chain((SOURCE, ONE, None)), ([], "all"))
        self.lies(chain((SOURCE, TWO, None)), ([], None))

    def test_ways_to_ship(self):
        self.lies(chain((SOURCE, TWO, None), (ALL, TWO, "forward")), ([], None), ([None], None))
        self.lies(chain((SOURCE, TWO, None), (ALL, TWO, ("v", "k"))), ([], None), ([("v", "k")], ("v", "k")))
        self.lies(chain((SOURCE, TWO, None), (ALL, ONE, "one")), ([], None), (["all"], "all"))
        self.lies(chain((SOURCE, ONE, None), (ALL, ONE, "forward")), ([], "all"), (["all"], "all"))
        self.lies(chain((SOURCE, TWO, None), (ALL, ONE, ("k",))), ([], None), (["all"], "all"))
        self.lies(chain((SOURCE, ONE, None), (ALL, TWO, ("k",))), ([], "all"), ([("k",)], ("k",)))

    def test_forward_between_owners(self):
        self.lies(chain((SOURCE, TWO, None), (ALL, TWO, ("k",)), (ALL, TWO, "forward")),
                  ([], None), ([("k",)], ("k",)), ([("k",)], ("k",)))
        self.lies(chain((SOURCE, TWO, None), (ALL, TWO, ("k",)), (ALL, ODD, "forward")),
                  ([], None), ([("k",)], ("k",)), ([None], None))

    def test_operators_that_hand_on_their_lie(self):
        first = ("first", ("k",), 5)
        top = ("top", ("k",), (("v", "up"),), 2)
        window = ("window", ("k",), ("tumble", 5), (("n", "count", None),))
        for operator in (ALL, ("distinct",), GROUP, top, window, first):
            self.lies(chain((SOURCE, TWO, None), (operator, TWO, ("k",))), ([], None), ([("k",)], ("k",)))
            self.lies(chain((SOURCE, TWO, None), (operator, ONE, "one")), ([], None), (["all"], "all"))

    def test_maps(self):
        self.lies(chain((SOURCE, TWO, None), (TO, TWO, ("k",))), ([], None), ([("k",)], ("b",)))
        self.lies(chain((SOURCE, TWO, None), (TO, TWO, ("k", "v"))), ([], None), ([("k", "v")], ("b", "a")))
        self.lies(chain((SOURCE, TWO, None), (TO, TWO, "forward")), ([], None), ([None], None))
        self.lies(chain((SOURCE, TWO, None), (TO, ONE, ("k",))), ([], None), (["all"], "all"))
        lost = ("map", (("k", ("column", "k")), ("v", ("binary", "+", ("column", "v"), ("value", 0)))))
        self.lies(chain((SOURCE, TWO, None), (lost, TWO, ("k", "v"))), ([], None), ([("k", "v")], None))
        self.lies(chain((SOURCE, TWO, None), (lost, TWO, ("k",))), ([], None), ([("k",)], ("k",)))
        turned = ("map", (("v", ("column", "k")), ("k", ("column", "v"))))
        self.lies(chain((SOURCE, TWO, None), (turned, TWO, ("k",))), ([], None), ([("k",)], ("v",)))

    def test_unions(self):
        both = ([], None), ([], None)
        union = ("union",)
        self.lies(two_sided(union, TWO, (("v", "k"), ("w", "j"))), *both, ([("v", "k"), ("w", "j")], ("v", "k")))
        self.lies(two_sided(union, TWO, (("v", "k"), ("j", "w"))), *both, ([("v", "k"), ("j", "w")], None))
        self.lies(two_sided(union, TWO, (("k",), ("j", "w"))), *both, ([("k",), ("j", "w")], None))
        self.lies(two_sided(union, TWO, (("k",), "forward")), *both, ([("k",), None], None))
        self.lies(two_sided(union, TWO, ("forward", "forward")), *both, ([None, None], None))
        self.lies(two_sided(union, ONE, ("one", "one")), *both, (["all", "all"], "all"))

    def test_two_sides(self):
        near = ("near", (("k", "j"), ("v", "w")), 0, 5, "left")
        for operator in (JOIN, near, ("asof", (("k", "j"), ("v", "w")), "inner")):
            self.lies(two_sided(operator, TWO, (("v", "k"), ("w", "j"))), ([], None), ([], None),
                      ([("v", "k"), ("w", "j")], ("v", "k")))
            self.lies(two_sided(operator, ONE, ("one", ("j",))), ([], None), ([], None), (["all", "all"], "all"))

    def test_by_chance(self):
        for seed in range(300):
            numbers = generator_of_numbers(seed)
            plan = random_plan(numbers)
            graph = other_ships(numbers, other_owners(numbers, lay_out(plan, random_parallel(numbers, plan))))
            self.same(lies_of(graph), PlainLies(graph).told())


class Refused(ExactCase):
    def wrong(self, message, stages, edges):
        self.refused(InvalidGraph, message, check_graph, (stages, edges))

    def right(self, graph):
        self.same(check_graph(graph), None)
        self.leaves_alone(check_graph, graph)

    def test_the_sink(self):
        message = "the sink must be the last"
        source = (SOURCE, 1, ONE)
        self.wrong(message, [], [])
        self.wrong(message, [source], [])
        self.wrong(message, [SINK, source], [(0, 1, 0, "forward")])
        self.wrong(message, [source, (("sink",), 2, TWO)], [(0, 1, 0, ("k",))])
        self.wrong(message, [source, SINK, SINK], [(0, 1, 0, "forward"), (1, 2, 0, "forward")])
        self.wrong(message, [source, (("sink",), 2, TWO), SINK], [])
        self.right(([source, SINK], [(0, 1, 0, "forward")]))

    def test_edges_that_lack_or_are_too_many(self):
        source, group = (SOURCE, 1, ONE), (GROUP, 1, ONE)
        self.wrong("edges are wrong at stage 0", [SINK], [])
        self.wrong("edges are wrong at stage 1", [source, SINK], [])
        self.wrong("edges are wrong at stage 1", [source, group, SINK], [(1, 2, 0, "forward")])
        self.wrong("edges are wrong at stage 0", [source, SINK], [(0, 0, 0, "forward"), (0, 1, 0, "forward")])
        self.wrong("edges are wrong at stage 1", [source, source, SINK], [(0, 1, 0, "forward"), (1, 2, 0, "forward")])
        twice = [(0, 1, 0, "forward"), (0, 1, 0, "forward"), (1, 2, 0, "forward")]
        self.wrong("edges are wrong at stage 1", [source, group, SINK], twice)
        self.wrong("edges are wrong at stage 1", [source, group, SINK], [(0, 1, 0, "one"), (0, 1, 1, "one"),
                                                                      (1, 2, 0, "one")])
        self.wrong("edges are wrong at stage 2", [source, group, SINK], [(0, 1, 0, "one"), (1, 2, 0, "one"),
                                                                      (1, 2, 0, "one")])

    def test_edges_of_two_sides(self):
        stages, right = two_sided(JOIN, ONE, ("one", "one"))
        self.right((stages, right))
        self.wrong("edges are wrong at stage 2", stages, [right[0], right[2]])
        self.wrong("edges are wrong at stage 2", stages, [right[1], right[0], right[2]])
        self.wrong("edges are wrong at stage 2", stages, [right[0], right[0], right[2]])
        self.wrong("edges are wrong at stage 2", stages, [right[0], right[1], (1, 2, 2, "one"), right[2]])

    def test_edges_from_stages_that_do_not_stand_ahead(self):
        stages = [(SOURCE, 1, ONE), (ALL, 1, ONE), (ALL, 1, ONE), SINK]
        last = [(2, 3, 0, "forward")]
        self.right((stages, [(0, 1, 0, "forward"), (1, 2, 0, "forward")] + last))
        self.wrong("edges are wrong at stage 1", stages, [(1, 1, 0, "forward"), (1, 2, 0, "forward")] + last)
        self.wrong("edges are wrong at stage 1", stages, [(2, 1, 0, "forward"), (0, 2, 0, "forward")] + last)
        self.wrong("edges are wrong at stage 2", stages, [(0, 1, 0, "forward"), (3, 2, 0, "forward")] + last)

    def test_edges_of_the_sink(self):
        stages = [(SOURCE, 1, ONE), (ALL, 1, ONE), SINK]
        self.wrong("edges are wrong at stage 2", stages, [(0, 1, 0, "forward"), (0, 2, 0, "forward")])
        self.wrong("edges are wrong at stage 2", stages, [(0, 1, 0, "forward"), (2, 2, 0, "forward")])
        self.wrong("edges are wrong at stage 2", stages, [(0, 1, 0, "forward"), (1, 2, 1, "forward")])

    def test_edges_that_do_not_stand_stage_by_stage(self):
        stages = [(SOURCE, 1, ONE), (ALL, 1, ONE), (ALL, 1, ONE), SINK]
        one, two, three = (0, 1, 0, "forward"), (1, 2, 0, "forward"), (2, 3, 0, "forward")
        self.wrong("edges are wrong at stage 1", stages, [two, one, three])
        self.wrong("edges are wrong at stage 2", stages, [one, three, two])
        stages, (one, two, three) = two_sided(("union",), ONE, ("one", "one"))
        self.wrong("edges are wrong at stage 2", stages, [one, three, two])

    def test_stages_that_lead_nowhere(self):
        source, group = (SOURCE, 1, ONE), (GROUP, 1, ONE)
        self.wrong("stage 0 leads nowhere", [source, (SECOND, 1, ONE), SINK], [(1, 2, 0, "forward")])
        self.wrong("stage 1 leads nowhere", [source, group, group, group, SINK], [
            (0, 1, 0, "one"), (0, 2, 0, "one"), (0, 3, 0, "one"), (3, 4, 0, "one")])

    def test_faults_of_the_plan(self):
        faulty = ("group", ("z",), (("n", "count", None),))
        self.refused(InvalidPlan, "node 1: there is no column z", check_graph,
                     chain((SOURCE, ONE, None), (faulty, ONE, "one")))
        self.refused(InvalidPlan, "node 1: other fields", check_graph,
                     ([(SOURCE, 1, ONE), (("source", "s", OTHER), 1, ONE), (("union",), 1, ONE), SINK],
                      [(0, 2, 0, "one"), (1, 2, 1, "one"), (2, 3, 0, "one")]))
        self.refused(InvalidPlan, "more than 16 nodes", check_graph,
                     chain((SOURCE, ONE, None), *[(ALL, ONE, "one")] * 16))
        self.right(chain((SOURCE, ONE, None), *[(ALL, ONE, "one")] * 15))

    def test_ways_that_are_wrong(self):
        def ships(operator, owners, ship, message=None):
            graph = chain((SOURCE, TWO, None), (operator, owners, ship))
            if message is None:
                self.right(graph)
            else:
                self.wrong(message, *graph)

        ships(ALL, TWO, "forward")
        ships(ALL, ODD, "forward")
        ships(ALL, THREE, "forward", "edge 0 ships wrongly")
        ships(ALL, ONE, "forward", "edge 0 ships wrongly")
        ships(ALL, ONE, "one")
        ships(ALL, TWO, "one", "edge 0 ships wrongly")
        ships(ALL, THREE, ("k",))
        ships(ALL, ONE, ("v",))
        ships(ALL, THREE, (), "edge 0 ships wrongly")
        ships(ALL, ONE, (), "edge 0 ships wrongly")
        ships(ALL, THREE, ("z",), "edge 0 ships wrongly")
        ships(ALL, ONE, ("k", "z"), "edge 0 ships wrongly")

    def test_the_way_to_the_sink(self):
        graph = [(SOURCE, 2, TWO), SINK]
        self.wrong("edge 0 ships wrongly", graph, [(0, 1, 0, "forward")])
        self.wrong("edge 0 ships wrongly", graph, [(0, 1, 0, ("z",))])
        self.right((graph, [(0, 1, 0, ("k",))]))
        self.right((graph, [(0, 1, 0, "one")]))
        self.right(([(SOURCE, 1, ONE), SINK], [(0, 1, 0, "one")]))

    def test_the_columns_are_those_of_the_origin(self):
        self.right(chain((SOURCE, TWO, None), (TO, TWO, "forward"), (ALL, TWO, ("c",))))
        self.wrong("edge 1 ships wrongly", *chain((SOURCE, TWO, None), (TO, TWO, "forward"), (ALL, TWO, ("k",))))

    def test_binding_columns(self):
        wrong = "edge 0 ships wrongly"
        for ship in (("k",), ("v",), ("k", "v"), ("v", "k")):
            self.right(chain((SOURCE, TWO, None), (GROUP, TWO, ship)))
        for ship in (("k", "k"), ("k", "v", "k"), ("m",), ("k", "m")):
            source = ("source", "s", FIELDS + (("m", "flag"),))
            self.wrong(wrong, *chain((source, TWO, None), (GROUP, TWO, ship)))
        self.wrong(wrong, *chain((SOURCE, TWO, None), (GROUP, TWO, "forward")))
        nothing = ("group", (), (("n", "count", None),))
        self.wrong(wrong, *chain((SOURCE, TWO, None), (nothing, TWO, ("k",))))
        self.right(chain((SOURCE, TWO, None), (nothing, ONE, ("k",))))
        self.right(chain((SOURCE, TWO, None), (nothing, ONE, "one")))

    def test_binding_columns_behind_forward(self):
        def shipped(columns, owners):
            return chain((SOURCE, TWO, None), (ALL, TWO, columns), (GROUP, owners, "forward"))

        self.right(shipped(("v",), TWO))
        self.right(shipped(("v", "k"), TWO))
        self.wrong("edge 1 ships wrongly", *shipped(("v",), ODD))
        self.wrong("edge 1 ships wrongly", *chain((SOURCE, TWO, None), (ALL, TWO, "forward"), (GROUP, TWO, "forward")))

    def test_binding_columns_of_two_sides(self):
        near = ("near", (("k", "j"), ("v", "w")), 0, 5, "left")
        for operator in (JOIN, near, ("asof", (("k", "j"), ("v", "w")), "inner")):
            for ships in ((("k",), ("j",)), (("v",), ("w",)), (("k", "v"), ("j", "w")), (("v", "k"), ("w", "j"))):
                self.right(two_sided(operator, TWO, ships))
            for ships in ((("k",), ("w",)), (("v",), ("j",)), (("k", "v"), ("w", "j")), (("k",), ("j", "w")),
                          (("k",), "forward"), ("forward", ("j",)), ("forward", "forward"), (("k", "k"), ("j", "j"))):
                self.wrong("edge 0 ships wrongly", *two_sided(operator, TWO, ships))
            self.right(two_sided(operator, ONE, ("one", ("w",))))

    def test_the_first_edge_of_the_first_such_stage(self):
        stages, edges = two_sided(JOIN, TWO, (("k",), ("z",)))
        self.wrong("edge 0 ships wrongly", stages, edges)
        stages = [(SOURCE, 2, TWO), (SECOND, 2, TWO), (ALL, 2, TWO), (JOIN, 2, TWO), SINK]
        edges = [(0, 2, 0, "forward"), (2, 3, 0, ("k",)), (1, 3, 1, ("w",)), (3, 4, 0, "forward")]
        self.wrong("edge 1 ships wrongly", stages, edges)
        self.wrong("edge 0 ships wrongly", stages, [(0, 2, 0, "one")] + edges[1:])
        self.wrong("edge 3 ships wrongly", stages, edges[:2] + [(1, 3, 1, ("j",)), edges[3]])

    def test_which_of_several_is_raised(self):
        source, faulty = (SOURCE, 2, TWO), (("filter", ("column", "k")), 1, ONE)
        wrong_ship = [(0, 1, 0, "forward"), (1, 2, 0, "forward")]
        self.wrong("the sink must be the last", [source, faulty, (("sink",), 2, TWO)], [])
        self.wrong("edges are wrong at stage 2", [source, faulty, SINK], wrong_ship[:1])
        self.wrong("edges are wrong at stage 1", [source, faulty, SINK], [])
        self.wrong("stage 1 leads nowhere", [source, faulty, faulty, SINK],
                   [(0, 1, 0, "forward"), (0, 2, 0, "forward"), (2, 3, 0, "forward")])
        self.refused(InvalidPlan, "node 1: types differ", check_graph, ([source, faulty, SINK], wrong_ship))
        self.wrong("edge 0 ships wrongly", [source, (ALL, 1, ONE), SINK], wrong_ship)

    def test_by_chance(self):
        seen = set()
        for seed in range(400):
            numbers = generator_of_numbers(seed)
            plan = random_plan(numbers)
            graph = lay_out(plan, random_parallel(numbers, plan))
            for _ in range(numbers.randint(1, 2)):
                graph = other_ships(numbers, graph) if numbers.random() < 0.7 else other_owners(numbers, graph)
            wrong = PlainLies(graph).first_wrong()
            seen.add(wrong)
            if wrong is None:
                self.right(graph)
            else:
                self.wrong(f"edge {wrong} ships wrongly", *graph)
        self.assertGreater(len(seen), 4)


class Rows(ExactCase):
    def test_rows_that_agree_come_to_one_task(self):
        for seed in range(200):
            numbers = generator_of_numbers(seed)
            graph = random_graph(numbers)
            for stage in range(len(graph[0]) - 1):
                self.look_at(numbers, graph, stage)

    def look_at(self, numbers, graph, stage):
        """Send the same rows through all edges to a stage, as they may lie at the tasks of the origins."""
        edges = [edge for edge in graph[1] if edge[1] == stage]
        binding = PlainLies(graph).binding(stage)
        if binding is None:
            return
        lies, met = lies_of(graph), {}
        for side, edge in enumerate(edges):
            origin, fields = edge[0], fields_at(graph, stage)[side][0]
            for _ in range(60):
                row = random_row_of(numbers, fields, 3)
                lie, many = lies[origin][1], graph[0][origin][1]
                task = numbers.randrange(many)
                if isinstance(lie, tuple):
                    task = owner_of(graph, origin, key_of(row, fields, lie))
                receiver = plain_receiver(graph, fields, edge, task, row)
                met.setdefault(repr(key_of(row, fields, binding[side])), set()).add(receiver)
        self.assertTrue(all(len(tasks) == 1 for tasks in met.values()))

    def test_owners_of_chance(self):
        numbers = generator_of_numbers(7)
        for _ in range(20):
            owners = random_owners(numbers, 3)
            graph = ([(SOURCE, 3, owners)], [])
            for values in (("a",), (1, None), ("x", True)):
                self.same(owner_of(graph, 0, values), owners[group_of(values)])


class Laid(ExactCase):
    def test_a_graph_that_was_laid_out_is_let_by(self):
        for seed in range(200):
            numbers = generator_of_numbers(seed)
            plan = random_plan(numbers, 8)
            graph = lay_out(plan, random_parallel(numbers, plan))
            self.same(check_graph(graph), None)
            self.same(plan_of(graph), plan)
            self.same(graph[0][-1], (("sink",), 1, even_owners(1)))


if __name__ == "__main__":
    unittest.main()
