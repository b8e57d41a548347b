"""The work that arrivals of changes cause under a policy."""

from orderpairs.policies import allowed_orders, check_policy
from orderpairs.replicas import Replica
from orderpairs.worlds import check_world


def work_of(world, policy, names):
    check_world(world)
    # The work does not depend on the values in the store, so that any initial store will do.
    replica = Replica.at(world, policy, world.stores[0], names)
    return replica.work


def hardest(world, policy):
    check_world(world)
    check_policy(world, policy)
    # Of several pairs with the greatest work max returns the first one.
    return max(arrivals_with_work(world, policy), key=lambda pair: pair[1])


def works(world, policy):
    check_world(world)
    check_policy(world, policy)
    yield from arrivals_with_work(world, policy)


def arrivals_with_work(world, policy):
    """The list of the pairs of an arrival of all changes and its work, ordered by the indices."""
    return [(names, work_of(world, policy, names)) for names in allowed_orders({}, tuple(world.names))]
