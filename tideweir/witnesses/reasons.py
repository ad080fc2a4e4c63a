"""Why rows stand in the meaning of a plan, and what an event changes in it."""

from tideweir.flows.flows import sum_flows, table_at, turned
from tideweir.flows.logs import check_logs, flow_of_source
from tideweir.plans.plans import fields_of, is_source, meaning, sources_of
from tideweir.values.order import same_rows
from tideweir.witnesses.places import check_places, only_these, without_these
from tideweir.witnesses.questions import Questions


def weight_of(plan, logs, time, row):
    """Return the weight with which a row stands at a time, 0 if it does not; raise InvalidPlan or InvalidLogs."""
    kind = fields_of(plan)[-1][1]
    flow = meaning_for(plan, logs)
    table = table_at(flow, time) if kind == "table" else [
        (other, weight) for moment, other, weight in flow if moment == time]
    return sum([weight for other, weight in table if same_rows(other, row)])


def meaning_for(plan, logs):
    """Return the meaning of a plan for logs; raise InvalidPlan or InvalidLogs."""
    check_witnesses(plan, logs)
    return meaning(plan, {name: flow_of_source(logs[name]) for name in sources_of(plan)})


def check_witnesses(plan, logs):
    """Return None if a plan is let by and the logs have its sources; otherwise raise InvalidPlan or InvalidLogs."""
    fields_of(plan)
    check_logs(logs, {operator[1]: operator[2] for operator, _ in plan if is_source(operator)})


def tells(plan, logs, places, time, row):
    """Return True if places tell a row at a time; raise InvalidPlan or InvalidLogs."""
    weight = weight_of(plan, logs, time, row)
    check_places(logs, places)
    return weight != 0 and weight_of(plan, only_these(logs, places), time, row) == weight


def why(plan, logs, time, row):
    """Return the places that answer why a row stands at a time, or None if it does not."""
    if weight_of(plan, logs, time, row) == 0:
        return None
    fields = [own for own, _ in fields_of(plan)]
    questions = Questions(plan, fields, logs, time)
    questions.ask(len(plan) - 1, [(name, value) for (name, _), value in zip(fields[-1], row)])
    return sorted(questions.found)


def least_why(plan, logs, time, row):
    """Return places that tell a row, none of which can be left out, or None if it does not stand."""
    left = why(plan, logs, time, row)
    if left is None:
        return None
    weight = weight_of(plan, logs, time, row)
    before = None
    while before != left:
        before = left
        for place in before:
            others = [other for other in left if other != place]
            if weight_of(plan, only_these(logs, others), time, row) == weight:
                left = others
    return left


def impact(plan, logs, place):
    """Return what the meaning has more, and less, for the logs than without one event."""
    whole = meaning_for(plan, logs)
    return sum_flows([whole, turned(meaning_for(plan, without_these(logs, [place])))])
