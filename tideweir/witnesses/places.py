"""Places of events in logs, and logs in which some events are left out."""

from tideweir.errors import InvalidLogs
from tideweir.flows.logs import late_indexes


def events_of(logs):
    """Return the places of all events that are on time."""
    places = []
    for name in sorted(logs):
        for partition, entries in enumerate(logs[name]):
            late = late_indexes(entries)
            places.extend([
                (name, partition, index)
                for index, entry in enumerate(entries) if entry[0] == "event" and index not in late
            ])
    return places


def only_these(logs, places):
    """Return logs in which only the events at some places are left; raise InvalidLogs if there is none at one."""
    check_places(logs, places)
    chosen = {place: True for place in places}
    return {name: [
        [entry for index, entry in enumerate(entries) if entry[0] == "mark" or (name, partition, index) in chosen]
        for partition, entries in enumerate(logs[name])
    ] for name in logs}


def without_these(logs, places):
    """Return logs in which all but the events at some places are left; raise InvalidLogs if there is none at one."""
    check_places(logs, places)
    chosen = {place: True for place in places}
    return {name: [
        [entry for index, entry in enumerate(entries) if (name, partition, index) not in chosen]
        for partition, entries in enumerate(logs[name])
    ] for name in logs}


def check_places(logs, places):
    """Return None if there is an event at each of some places; otherwise raise InvalidLogs."""
    for name, partition, index in places:
        if not has_event(logs.get(name, []), partition, index):
            raise InvalidLogs(f"there is no event at {name}, {partition}, {index}")


def has_event(partitions, partition, index):
    """Return True if there is an event at an index of a partition."""
    if not 0 <= partition < len(partitions) or not 0 <= index < len(partitions[partition]):
        return False
    return partitions[partition][index][0] == "event"
