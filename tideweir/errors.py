"""The errors of the program. None but the first is a base of another one, so that each is caught alone."""


class TideweirError(ValueError):
    """What all errors of the program have in common: the field message, a text."""

    def __init__(self, message):
        ValueError.__init__(self, message)
        self.message = message


class InvalidFlow(TideweirError):
    """A list of moves that is no flow of some fields."""


class InvalidLogs(TideweirError):
    """Logs or entries that do not go with the sources."""


class InvalidOperator(TideweirError):
    """An operator or an expression that does not go with the fields."""


class InvalidPlan(TideweirError):
    """A plan that is not let by."""


class InvalidGraph(TideweirError):
    """A graph that is refused."""


class InvalidState(TideweirError):
    """States or moves that do not go with the mark of a handle."""


class InvalidParcel(TideweirError):
    """A parcel that is refused."""


class InvalidChoice(TideweirError):
    """What is none of the choices at present."""


class NotTheSame(TideweirError):
    """A shift between things that had to be the same in some way."""


class UnknownSource(TideweirError):
    """A name that no source has."""


class TooFewPartitions(TideweirError):
    """A source with more tasks than partitions."""


class EngineDown(TideweirError):
    """What only an engine that is up can do."""


class EngineUp(TideweirError):
    """What only an engine that is down can do."""


class UnderWay(TideweirError):
    """A trigger while a checkpoint is not committed yet."""


class UnknownCheckpoint(TideweirError):
    """A number of a checkpoint that is not known, or not kept."""
