"""Logs: partitions of events and marks, and the flows of their events on time."""

from tideweir.errors import InvalidLogs
from tideweir.flows.flows import flow_of, sum_flows
from tideweir.values.rows import fits

THE_END = 1000000


def mark_behind(entries):
    """Return the mark of a partition behind these entries, -1 for none."""
    return max([entry[1] for entry in entries if entry[0] == "mark"], default=-1)


def late_indexes(entries):
    """Return the indexes of the late events of a partition."""
    late = []
    mark = -1
    for index, entry in enumerate(entries):
        if entry[0] == "mark":
            mark = max(mark, entry[1])
        elif entry[1] <= mark:
            late.append(index)
    return late


def flow_of_partition(entries):
    """Return the sum of the events of a partition that are on time."""
    late = set(late_indexes(entries))
    on_time = [entry for index, entry in enumerate(entries) if entry[0] == "event" and index not in late]
    return flow_of([(time, row, 1) for _, time, row in on_time])


def flow_of_source(partitions):
    """Return the sum of the flows of some partitions."""
    return sum_flows([flow_of_partition(entries) for entries in partitions])


def mark_of_source(partitions):
    """Return the least mark of some partitions, behind all of their entries."""
    return min([mark_behind(entries) for entries in partitions], default=-1)


def check_logs(logs, sources):
    """Return None if logs have all sources, with rows that fit their fields; otherwise raise InvalidLogs."""
    for name, fields in sources.items():
        if name not in logs:
            raise InvalidLogs(f"there is no source {name}")
        if not all(events_fit(entries, fields) for entries in logs[name]):
            raise InvalidLogs(f"{name} has other fields")


def events_fit(entries, fields):
    """Return True if the rows of all events of a partition fit the fields; late ones count, too."""
    return all(entry[0] == "mark" or fits(entry[2], fields) for entry in entries)
