"""Engines that go on with other numbers of tasks."""

from tideweir.engines.copies import copy_of
from tideweir.errors import NotTheSame
from tideweir.graphs.graphs import check_graph, lies_of, plan_of
from tideweir.graphs.laying import lay_out
from tideweir.handles.states import join_states, split_state
from tideweir.jobs.wiring import Wiring
from tideweir.plans.plans import is_source
from tideweir.plans.tidying import same_plans
from tideweir.shifts.cuts import check_aligned, marks_at_cut, marks_of_channels
from tideweir.shifts.owners import owners_for
from tideweir.values.keys import GROUPS


def rescale(graph, checkpoint, other):
    """Return the checkpoint of a graph for another one of the same plan; raise NotTheSame if this cannot be."""
    check_graph(graph)
    check_graph(other)
    check_aligned(checkpoint)
    check_same(graph, other)
    wiring = Wiring(other)
    marks = marks_at_cut(wiring, checkpoint)
    rescaled = copy_of(checkpoint)
    rescaled["tasks"] = []
    rescaled["marks"] = marks_of_channels(wiring, marks, wiring.sink)
    lies = lies_of(other)
    for stage in range(len(wiring.stages) - 1):
        states = [state for number, _, (_, state) in checkpoint["tasks"] if number == stage]
        # A source has no states.
        if states:
            rescaled["tasks"].extend(tasks_of_stage(wiring, stage, lies[stage][0], states, marks))
    return rescaled


def check_same(graph, other):
    """Return None if two graphs have the same plan, and sources with as many tasks; otherwise raise NotTheSame."""
    if not same_plans(plan_of(graph), plan_of(other)):
        raise NotTheSame("that is another plan")
    for number, (operator, parallel, _) in enumerate(graph[0]):
        if is_source(operator) and other[0][number][1] != parallel:
            raise NotTheSame(f"source {number} keeps its tasks")


def tasks_of_stage(wiring, stage, lies, states, marks):
    """Return the tasks of a stage with their states, for the states that its tasks had before."""
    joined = join_states(wiring.stages[stage][0], states)
    tasks = []
    for number, (_, pending, kept) in enumerate(parts_of_state(wiring, stage, lies, joined, marks)):
        task = (stage, number)
        tasks.append((stage, number, (marks_of_channels(wiring, marks, task), (marks[task], pending, kept))))
    return tasks


def parts_of_state(wiring, stage, lies, joined, marks):
    """Return the parts of the joined state of a stage, one for each of its tasks."""
    operator, parallel, owners = wiring.stages[stage]
    if all(isinstance(lie, tuple) for lie in lies):
        columns = lies
        shares = [[group for group in range(GROUPS) if owners[group] == number] for number in range(parallel)]
    else:
        # There is one task, or nothing binds the rows to one; but none may be where the mark has passed it.
        reached = [marks[(stage, number)] for number in range(parallel)]
        least = reached.index(min(reached))
        columns = [None for _ in lies]
        shares = [[0] if number == least else [] for number in range(parallel)]
    fields = wiring.fields_of_sides((stage, 0))
    return [split_state(operator, fields, columns, joined, groups) for groups in shares]


def regraph(graph, parallel):
    """Return the graph of the same plan with other numbers of tasks, and as many owners as can be as they were."""
    stages, edges = lay_out(plan_of(graph), parallel)
    owners = {}
    for number, (operator, many, _) in enumerate(stages[:-1]):
        if not is_source(operator) and many not in owners:
            owners[many] = owners_for(graph[0][number][2], many)
    regraphed = [(operator, many, owners.get(many, even)) for operator, many, even in stages[:-1]]
    return (regraphed + stages[-1:], edges)
