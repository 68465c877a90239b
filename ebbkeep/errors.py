"""The errors that the program raises."""


class EbbError(ValueError):
    """The base class of all errors that the program raises."""


class Malformed(EbbError):
    """A text is no written form; line is the index of the first line that cannot stand."""

    def __init__(self, line):
        super().__init__(f"line {line} cannot stand")
        self.line = line


class InvalidSetting(EbbError):
    """A tuple is not the setting of a service or of a house."""


class InvalidTariff(EbbError):
    """A tuple is not a tariff."""


class InvalidRow(EbbError):
    """A row of parts, of limits or of entries is not what it must be."""


class NotFound(EbbError):
    """There is nothing of the kind that was asked for."""
