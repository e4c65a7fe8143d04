"""The refusals, one class for each kind of thing that is refused."""


class CallError(ValueError):
    """Something handed in is refused; what it was, the classes below tell."""


class BadUps(CallError):
    """What was handed in as ups is none."""


class BadOrders(CallError):
    """What was handed in as orders is none."""


class BadAbsent(CallError):
    """What was handed in as absent ones is none."""


class BadCalls(CallError):
    """What was handed in as rounds of calls is none."""


class BadMany(CallError):
    """What was handed in as how many are absent is no such number."""


class BadPerson(CallError):
    """What was handed in as a person is none."""


class TooMany(CallError):
    """The orders are of more people than can be asked about."""
