"""Rules by which a plan becomes another one of the same meaning, and certificates: lists of such steps."""

from tideweir.errors import InvalidPlan
from tideweir.plans.plans import fields_of
from tideweir.plans.rewriting import added_by
from tideweir.plans.tidying import is_tidy, same_plans, tidied_from

RULES = (
    "all", "same", "filters", "maps", "under map", "under union", "under left", "under right", "under keys", "narrow",
    "turn", "distinct", "tops", "firsts",
)


def apply_rule(plan, rule, node):
    """Return the plan that a step from a tidy plan gives, or None if the rule cannot be applied at this node."""
    if rule not in RULES or not 0 <= node < len(plan):
        return None
    return attempt(plan, fields_of(plan), rule, node)


def steps_of(plan):
    """Return the list of the steps of a tidy plan."""
    return [step for step, _ in changes_by_steps(plan)]


def changes_by_steps(plan):
    """Return the list of the steps of a tidy plan, each in a pair with the plan that it gives."""
    fields = fields_of(plan)
    steps = [(rule, node) for node in range(len(plan)) for rule in RULES]
    tried = [(step, attempt(plan, fields, step[0], step[1])) for step in steps]
    return [(step, changed) for step, changed in tried if changed is not None]


def check_certificate(plan, steps, to):
    """Return None if steps lead from a plan to another one, otherwise the number of the step that fails."""
    # Rules speak of tidy plans alone.
    if steps and not is_tidy(plan):
        return 0
    reached = plan
    for number, (rule, node) in enumerate(steps):
        reached = apply_rule(reached, rule, node)
        if reached is None:
            return number
    return None if same_plans(reached, to) else len(steps)


def attempt(plan, fields, rule, node):
    """Return the plan that a step gives, or None; the fields are those of all nodes of the plan."""
    if not plan[node][1]:
        return None
    added = added_by(rule, plan, fields, node)
    if added is None:
        return None
    changed = with_nodes(plan, node, added)
    if same_plans(changed, plan):
        return None
    try:
        told = fields_of(changed)
    except InvalidPlan:
        return None
    return changed if told[-1] == fields[-1] else None


def with_nodes(plan, node, added):
    """Return the tidied plan with new nodes in the place of one, or with its first input there if there are none."""
    place = node + len(added) - 1 if added else plan[node][1][0]
    nodes = list(plan[:node]) + added
    numbers = list(range(node)) + [place]
    for operator, inputs in plan[node + 1:]:
        numbers.append(len(nodes))
        nodes.append((operator, tuple([numbers[below] for below in inputs])))
    return tidied_from(nodes, numbers[-1])
