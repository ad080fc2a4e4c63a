"""The logs of a graph at work: their checks, and entries that are appended."""

from tideweir.errors import InvalidLogs, TooFewPartitions, UnknownSource
from tideweir.flows.logs import check_logs, events_fit
from tideweir.graphs.graphs import check_graph
from tideweir.plans.plans import is_source


def logs_for(graph, logs):
    """Return a copy of the logs of a graph's sources; raise an error if the graph cannot work on them."""
    check_graph(graph)
    stages, _ = graph
    own = {}
    for operator, parallel, _ in stages:
        if is_source(operator):
            name = operator[1]
            if name not in logs:
                raise UnknownSource(name)
            check_logs(logs, {name: operator[2]})
            if parallel > len(logs[name]):
                raise TooFewPartitions(name)
            own[name] = [list(entries) for entries in logs[name]]
    return own


def append_entries(stages, logs, source, partition, entries):
    """Append entries to a partition, and return how many it has; raise an error if they do not go there."""
    fields = [operator[2] for operator, _, _ in stages if is_source(operator) and operator[1] == source]
    if not fields:
        raise UnknownSource(source)
    if not 0 <= partition < len(logs[source]):
        raise InvalidLogs("no such partition")
    if not events_fit(entries, fields[0]):
        raise InvalidLogs(f"{source} has other fields")
    logs[source][partition].extend(entries)
    return len(logs[source][partition])
