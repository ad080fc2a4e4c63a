"""Graphs made by chance, and logs for them."""

from tests.random_operators import WORDS, random_row_of
from tests.random_plans import SOURCES, random_plan
from tideweir.errors import InvalidGraph, InvalidPlan
from tideweir.graphs.graphs import check_graph
from tideweir.graphs.laying import lay_out
from tideweir.plans.plans import fields_of

FIELDS_OF = {name: fields for _, name, fields in SOURCES}


def random_entries(numbers, fields, many, end=24):
    """Entries of a partition, with marks that mostly rise."""
    entries, mark = [], 0
    for _ in range(many):
        kind = numbers.random()
        if kind < 0.35:
            mark = min(end, mark + numbers.randint(0, 6))
            entries.append(("mark", mark))
        elif kind < 0.4:
            entries.append(("mark", numbers.randrange(end)))
        else:
            time = numbers.randint(max(0, mark - 2), min(end, mark + 9))
            entries.append(("event", time, random_row_of(numbers, fields)))
    return entries


def random_logs(numbers, many=7, partitions=None):
    """Logs of all sources; partitions are as many as the least that is told, or more."""
    logs = {}
    for _, name, fields in SOURCES:
        least = (partitions or {}).get(name, 1)
        logs[name] = [random_entries(numbers, fields, numbers.randint(0, many))
                      for _ in range(numbers.randint(least, 4))]
    return logs


def random_parallel(numbers, plan):
    """A number of tasks for each node, mostly the same one."""
    common = numbers.randint(1, 4)
    return [common if numbers.random() < 0.6 else numbers.randint(1, 4) for _ in plan]


def random_owners(numbers, parallel):
    """Any owners."""
    return tuple(numbers.randrange(parallel) for _ in range(16))


def other_owners(numbers, graph):
    """The graph with other owners, the same for all stages with as many tasks, or here and there others."""
    stages, edges = graph
    common = {many: random_owners(numbers, many) for many in range(1, 5)}
    return [(operator, many, common[many] if numbers.random() < 0.9 else random_owners(numbers, many))
            for operator, many, _ in stages], edges


def other_ships(numbers, graph):
    """The graph with some edges that ship in another way."""
    stages, edges = graph
    fields = [own for own, _ in fields_of(tuple(
        (stage[0], tuple(edge[0] for edge in edges if edge[1] == k)) for k, stage in enumerate(stages[:-1])))]
    changed = []
    for origin, target, side, ship in edges:
        names = [name for name, _ in fields[origin]]
        columns = tuple(numbers.sample(names, numbers.randint(1, len(names))))
        if numbers.random() < 0.3:
            ship = numbers.choice(("forward", "one", columns, columns, columns))
        changed.append((origin, target, side, ship))
    return stages, changed


def random_graph(numbers, many=6, words=WORDS):
    """A graph that is not refused."""
    plan = random_plan(numbers, many, words)
    graph = lay_out(plan, random_parallel(numbers, plan))
    for _ in range(numbers.randint(0, 3)):
        other = other_owners(numbers, graph) if numbers.random() < 0.4 else other_ships(numbers, graph)
        if is_let_by(other):
            graph = other
    return graph


def is_let_by(graph):
    """Whether a graph is not refused."""
    try:
        check_graph(graph)
    except (InvalidGraph, InvalidPlan):
        return False
    return True


def partitions_wanted(graph):
    """For each source of a graph the number of partitions that it has to have."""
    wanted = {}
    for operator, parallel, _ in graph[0]:
        if operator[0] == "source":
            wanted[operator[1]] = max(parallel, wanted.get(operator[1], 1))
    return wanted
