"""Engines made by chance that have committed an aligned checkpoint, and other graphs of the same plan."""

from tests.random_graphs import is_let_by, other_owners, other_ships, partitions_wanted, random_graph, random_logs
from tideweir.engines.engine import Engine
from tideweir.shifts.rescaling import regraph


def random_engine(numbers, many=6):
    """A graph, logs and an engine at work."""
    graph = random_graph(numbers, many)
    logs = random_logs(numbers, partitions=partitions_wanted(graph))
    engine = Engine(graph, logs, numbers.choice((1, 2, 3, 8)))
    return graph, logs, engine


def go_on(numbers, engine, many=40):
    """Some steps."""
    engine.run([numbers.randrange(1000) for _ in range(numbers.randint(0, many))])


def take(numbers, engine, how="aligned"):
    """The checkpoint that an engine takes and commits, amid further steps."""
    number = engine.trigger(how)
    while engine.status(number) != "committed":
        engine.run([numbers.randrange(1000)])
    return engine.checkpoint(number)


def other_graph(numbers, graph):
    """Another graph of the same plan, with as many tasks at its sources."""
    parallel = [many if operator[0] == "source" else numbers.randint(1, 4) for operator, many, _ in graph[0][:-1]]
    other = regraph(graph, parallel)
    for _ in range(numbers.randint(0, 3)):
        changed = other_owners(numbers, other) if numbers.random() < 0.4 else other_ships(numbers, other)
        if is_let_by(changed):
            other = changed
    return other
