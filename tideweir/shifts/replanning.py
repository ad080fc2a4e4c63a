"""Engines that go on with another plan."""

from tideweir.engines.engine import Engine
from tideweir.errors import NotTheSame, UnknownSource
from tideweir.graphs.graphs import check_graph
from tideweir.graphs.laying import lay_out
from tideweir.jobs.wiring import Wiring
from tideweir.plans.plans import is_source
from tideweir.shifts.cuts import check_aligned, marks_at_cut

ROOM = 8


def replan(graph, checkpoint, logs, plan, parallel):
    """Return the graph of another plan, and the checkpoint with which it goes on; raise an error if it cannot be."""
    check_graph(graph)
    check_aligned(checkpoint)
    other = lay_out(plan, parallel)
    for operator, _ in plan:
        if is_source(operator) and stage_of(graph, operator) is None:
            raise UnknownSource(operator[1])
    replanned = checkpoint_at_rest(other, logs_as_read(graph, checkpoint, logs, plan))
    replanned["number"] = checkpoint["number"]
    if mark_at_sink(graph, checkpoint) != mark_at_sink(other, replanned):
        raise NotTheSame("the marks differ")
    return (other, replanned)


def stage_of(graph, source):
    """Return the number of the first stage of a source with these fields, or None."""
    for number, (operator, _, _) in enumerate(graph[0]):
        if operator == source:
            return number
    return None


def logs_as_read(graph, checkpoint, logs, plan):
    """Return the logs of a plan's sources, cut behind the entries that were read."""
    many = {(stage, partition): read for stage, partition, read, _, _ in checkpoint["sources"]}
    cut = {}
    for operator, _ in plan:
        if is_source(operator) and operator[1] in logs:
            stage = stage_of(graph, operator)
            cut[operator[1]] = [
                entries[:many.get((stage, partition), 0)] for partition, entries in enumerate(logs[operator[1]])]
    return cut


def checkpoint_at_rest(graph, logs):
    """Return the checkpoint of a graph that has come to rest on logs, with nothing told."""
    engine = Engine(graph, logs, ROOM)
    engine.rest()
    number = engine.trigger("aligned")
    engine.rest()
    checkpoint = engine.checkpoint(number)
    checkpoint["told"] = []
    return checkpoint


def mark_at_sink(graph, checkpoint):
    """Return the mark of the sink of a graph at the cut of a checkpoint."""
    wiring = Wiring(graph)
    return marks_at_cut(wiring, checkpoint)[wiring.sink]
