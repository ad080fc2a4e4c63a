"""Plans made by chance, and flows for their sources."""

from tests.random_operators import WORDS, random_flow_of, random_operator, sides_of_word
from tideweir.errors import InvalidOperator
from tideweir.operators.checks import check_operator
from tideweir.plans.tidying import tidied

SOURCES = (("source", "s", (("a", "whole"), ("b", "text"))), ("source", "t", (("d", "whole"), ("e", "text"))),
           ("source", "u", (("g", "whole"), ("h", "text"), ("i", "flag"))))


def special_operator(numbers, inner, fields):
    """An operator of one side that a rule may take away or put together with that of its input, or None."""
    word = inner[0]
    if word == "top":
        return inner[:3] + (numbers.randint(1, 4),)
    if word == "first":
        return inner[:2] + (numbers.randint(1, 9),)
    return numbers.choice((("filter", ("value", True)), ("filter", ("value", False)), ("distinct",),
                           ("map", tuple((name, ("column", name)) for name, _ in fields)),
                           ("filter", ("null", ("column", fields[0][0]))),
                           ("filter", ("not", ("null", ("column", fields[-1][0]))))))


def special_node(numbers, nodes, told):
    """Such a node on the last one, or None."""
    operator = special_operator(numbers, nodes[-1][0], told[-1][0])
    try:
        return (operator, (len(nodes) - 1,)), check_operator(operator, [told[-1]])
    except InvalidOperator:
        return None


def random_node(numbers, told, words):
    """A node that checks, on the last nodes above all, or None."""
    word = numbers.choice(words)
    inputs = []
    for _ in range(sides_of_word(word)):
        inputs.append(len(told) - 1 if not inputs and numbers.random() < 0.85 else numbers.randrange(len(told)))
    if numbers.random() < 0.5:
        inputs.reverse()
    fields = [told[node][0] for node in inputs]
    if len(fields) == 2 and word != "union" and not {kind for _, kind in fields[0]} & {kind for _, kind in fields[1]}:
        return None
    operator = random_operator(numbers, word, fields) if word not in ("group", "window") or any(
        kind == "whole" for _, kind in fields[0]) else None
    if operator is None:
        return None
    try:
        return (operator, tuple(inputs)), check_operator(operator, [told[node] for node in inputs])
    except InvalidOperator:
        return None


def random_plan(numbers, many=6, words=WORDS):
    """A tidy plan that is let by."""
    nodes = [(source, ()) for source in numbers.sample(SOURCES, numbers.randint(1, 3))]
    told = [(source[2], "events") for source, _ in nodes]
    wanted = len(nodes) + numbers.randint(0, many)
    while len(nodes) < wanted:
        is_special = words == WORDS and numbers.random() < 0.3
        found = special_node(numbers, nodes, told) if is_special else random_node(numbers, told, words)
        if found is not None:
            nodes.append(found[0])
            told.append(found[1])
    return tidied(tuple(nodes))


def random_flows(numbers, many=8, end=20):
    """Flows of events for all of the sources."""
    return {name: random_flow_of(numbers, fields, "events", numbers.randint(0, many), end)
            for _, name, fields in SOURCES}
