"""The errors of the package: one class for each kind of failure."""


class OrderError(ValueError):
    """The base class of all errors of the package."""


class BadChange(OrderError):
    """A change cannot be made of these parts."""


class BadWorld(OrderError):
    """Not a world, or parts of which no world can be made; `part` tells which one is wrong."""

    def __init__(self, part=None):
        self.part = part


class BadName(OrderError):
    """Not the name of a change that can be meant here."""


class BadStore(OrderError):
    """Not a store, or not one that can stand here."""


class BadOrder(OrderError):
    """Not an order or a set of the changes of the world."""


class BadPolicy(OrderError):
    """Not a policy of the world."""


class NotEnough(OrderError):
    """A policy that has a split, where one without is needed."""


class BadTable(OrderError):
    """Not a dict with the keys and the kind of values of a table of ends."""


class BadCosts(OrderError):
    """Not a dict with a cost for each ordered pair of different names."""


class BadReplica(OrderError):
    """Not a replica with an equal world, policy and initial store."""


class BadText(OrderError):
    """Not the text of a world or of a policy; `row` tells where it is wrong."""

    def __init__(self, row=0):
        self.row = row
