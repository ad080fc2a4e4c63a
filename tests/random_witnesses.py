"""Plans, logs and rows that stand in their meaning, made by chance."""

from tests.plain_meanings import plain_meaning
from tests.plain_operators import plain_table
from tests.random_graphs import random_logs
from tests.random_plans import random_plan
from tideweir.plans.plans import fields_of


def random_meaning(numbers, many=5):
    """A plan, logs, and the flow that they mean."""
    plan, logs = random_plan(numbers, many), random_logs(numbers, 6)
    return plan, logs, plain_meaning(plan, logs)


def rows_that_stand(numbers, plan, flow, most=3):
    """Some times and rows with the weights with which they stand."""
    if fields_of(plan)[-1][1] == "events":
        found = list(flow)
    else:
        times = sorted({time for time, _, _ in flow})
        times += [time + 1 for time in times]
        found = [(time, row, weight) for time in times for row, weight in plain_table(flow, time)]
    return numbers.sample(found, min(most, len(found)))
