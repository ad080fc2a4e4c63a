"""Guesses of how many rows come out of nodes, costs of plans, and the search for a cheap plan."""

from tideweir.plans.plans import fields_of
from tideweir.plans.rules import changes_by_steps
from tideweir.plans.tidying import tidied

MOST_PLANS = 30
DEAR = ("group", "top", "window", "near", "asof", "join", "first")


def guesses(plan, stats):
    """Return the list of the guesses of all nodes of a plan."""
    told = []
    for operator, inputs in plan:
        told.append(guess_of(operator, [told[node] for node in inputs], stats))
    return told


def guess_of(operator, numbers, stats):
    """Return the guess of a node, for the numbers that are guessed of its inputs."""
    word = operator[0]
    if word == "source":
        return stats.get(operator[1], 0)
    if word == "union":
        return numbers[0] + numbers[1]
    if word in ("near", "join"):
        return quotient(numbers[0] * numbers[1], 10)
    if word == "filter":
        return quotient(numbers[0], 3)
    if word in ("group", "first"):
        return quotient(numbers[0], 2)
    if word == "top":
        return min(numbers[0], quotient(operator[3] * numbers[0], 4))
    if word == "window":
        return quotient(numbers[0], 2) * windows_at_once(operator[2])
    return numbers[0]


def quotient(number, divisor):
    """Return a quotient, rounded up."""
    return (number + divisor - 1) // divisor


def windows_at_once(window):
    """Return the number of the windows in which a time is guessed to lie."""
    return quotient(window[1], window[2]) if window[0] == "hop" else 1


def cost(plan, stats):
    """Return the cost of a plan."""
    tidy = tidied(plan)
    fields = fields_of(tidy)
    numbers = guesses(tidy, stats)
    total = 0
    for operator, inputs in tidy:
        factor = 2 if operator[0] in DEAR else 1
        total += factor * sum([numbers[node] * len(fields[node][0]) for node in inputs])
    return total


def found_from(plan):
    """Return the list of the plans that are found from one.

    Each one is a tuple of the plan, the index of the plan from which it came, and the step by which it did.
    """
    found = [(tidied(plan), None, None)]
    known = {repr(found[0][0]): True}
    index = 0
    while index < len(found) and len(found) < MOST_PLANS:
        changes = changes_by_steps(found[index][0])
        for step, changed in changes:
            if len(found) < MOST_PLANS and repr(changed) not in known:
                known[repr(changed)] = True
                found.append((changed, index, step))
        index += 1
    return found


class Search:
    """The search for a cheap plan, by steps from a plan."""

    def __init__(self, plan, stats):
        found = found_from(plan)
        self._plans = [changed for changed, _, _ in found]
        # For each plan the index of the one from which it came, and by which step.
        self._origins = [(index, step) for _, index, step in found]
        costs = [cost(changed, stats) for changed in self._plans]
        self._least = min(costs)
        self._best = costs.index(self._least)

    @property
    def best(self):
        """The first plan of least cost."""
        return self._plans[self._best]

    @property
    def least(self):
        """The cost of the best plan."""
        return self._least

    @property
    def seen(self):
        """The number of the plans that were found."""
        return len(self._plans)

    def steps(self):
        """Return the list of the steps by which the best plan came from the tidied plan."""
        steps = []
        index, step = self._origins[self._best]
        while step is not None:
            steps.append(step)
            index, step = self._origins[index]
        return steps[::-1]

    def __iter__(self):
        return iter(self._plans)
