"""The marks of graphs at a cut, and what has to be so that a checkpoint can be shifted."""

from tideweir.errors import NotTheSame
from tideweir.flows.logs import THE_END


def marks_at_cut(wiring, checkpoint):
    """Return a dict of the marks of all tasks at the cut of an aligned checkpoint.

    They follow from those of the partitions, as no channel holds anything.
    """
    marks = {task: THE_END for task in wiring.source_tasks}
    for stage, partition, _, mark, _ in checkpoint["sources"]:
        task = (stage, partition % wiring.stages[stage][1])
        marks[task] = min(marks[task], mark)
    for task in wiring.other_tasks:
        marks[task] = min(marks_of_channels(wiring, marks, task))
    return marks


def marks_of_channels(wiring, marks, task):
    """Return the list of the marks of the channels that lead to a task, for those of the tasks ahead of it."""
    return [marks[wiring.channels[channel][1]] for channel in wiring.leading_to[task]]


def check_aligned(checkpoint):
    """Return None if a checkpoint is aligned; otherwise raise NotTheSame."""
    if checkpoint["how"] == "swift":
        raise NotTheSame("the checkpoint is swift")
