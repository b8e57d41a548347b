"""Replicas: they receive changes one by one and apply them in the order that a policy asks for."""

from orderpairs.errors import BadName, BadOrder, BadReplica, BadStore
from orderpairs.policies import check_policy, free_names, without
from orderpairs.worlds import check_world, is_known, is_order, is_start


class Replica:
    """A replica of a world: which changes it has received, and how far applying them has led it."""

    def __init__(self, world, policy, start):
        check_world(world)
        check_policy(world, policy)
        if not is_start(world, start):
            raise BadStore("not an initial store of the world")
        self.world = world
        self.policy = {pair: True for pair in policy}
        self.start = start
        self.arrived = []
        self.applied = ()
        self.reached = start
        self.applications = 0

    @classmethod
    def at(cls, world, policy, start, names):
        replica = cls(world, policy, start)
        if not is_order(world, names):
            raise BadOrder("not a tuple of different names of the world")
        for name in names:
            replica.receive(name)
        return replica

    @property
    def received(self):
        return list(self.arrived)

    @property
    def order(self):
        return self.applied

    @property
    def store(self):
        return self.reached

    @property
    def work(self):
        return self.applications

    def receive(self, name):
        if not is_known(self.world, name) or name in self.arrived:
            raise BadName("not a change of the world, or one that has been received")
        self.arrived.append(name)
        order = order_of(self.policy, self.arrived)
        self.applications += len(order) - common_length(self.applied, order)
        self.applied = order
        self.reached = self.world.end(self.start, order)
        return self.reached

    def lacking(self, other):
        check_alike(self, other)
        # The list is made before the first name is handed out, so that what is received meanwhile does not count.
        yield from [name for name in other.order if name not in self.arrived]

    def sync(self, other):
        names = list(self.lacking(other))
        for name in names:
            self.receive(name)
        return names


def check_alike(replica, other):
    if not isinstance(other, Replica):
        raise BadReplica("not a replica")
    if other.world != replica.world or other.policy != replica.policy or other.start != replica.start:
        raise BadReplica("not a replica with an equal world, policy and initial store")


def order_of(policy, received):
    """The order in which a replica applies the changes that it has received in this order."""
    left = tuple(received)
    order = ()
    while left:
        name = free_names(policy, left)[0]
        order += (name,)
        left = without(left, name)
    return order


def common_length(old, new):
    """How many names the two orders have in common at their beginning."""
    many = 0
    while many < min(len(old), len(new)) and old[many] == new[many]:
        many += 1
    return many
