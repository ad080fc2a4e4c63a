"""Engines that go on from a checkpoint that was handed in."""

from tideweir.engines.engine import Engine


def resume(graph, logs, room, checkpoint, committed):
    """Return an engine that goes on from a checkpoint, with a flow that was committed ahead of it."""
    return Engine.resumed(graph, logs, room, checkpoint, committed)
