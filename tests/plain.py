"""Decides by the words of the document, order by order and policy by policy, to check the program against it."""

import functools
import itertools


def allowed(policy, order):
    return all(order.index(one) < order.index(other) for one, other in policy if one in order and other in order)


def plain_orders(policy, names):
    return [order for order in itertools.permutations(names) if allowed(policy, order)]


def plain_splits(world, policy):
    for store in world.stores:
        for names in world.sets():
            for one, other in itertools.product(plain_orders(policy, names), repeat=2):
                if world.end(store, one) != world.end(store, other):
                    yield store, one, other


def plain_split(world, policy):
    return next(plain_splits(world, policy), None)


def plain_ends(world, policy):
    return {(store, names): world.end(store, plain_orders(policy, names)[0])
            for store in world.stores for names in world.sets()}


def plain_trimmed(world, policy):
    kept = sorted(policy, key=lambda pair: [world.names.index(name) for name in pair])
    for pair in list(kept):
        fewer = [other for other in kept if other != pair]
        if plain_split(world, {other: True for other in fewer}) is None:
            kept = fewer
    return {pair: True for pair in kept}


@functools.lru_cache(maxsize=None)
def lists_of_entries(names):
    pairs = list(itertools.combinations(names, 2))
    lists = [[pair if mark == 1 else pair[::-1] for pair, mark in zip(pairs, marks) if mark]
             for marks in itertools.product((0, 1, 2), repeat=len(pairs))]
    # Entries with a cycle allow no order.
    return [entries for entries in lists if plain_orders(entries, names)]


def plain_policies(names):
    """All policies, in the order in which policies of equal cost are compared."""
    for entries in lists_of_entries(tuple(names)):
        yield {entry: True for entry in entries}


def plain_cost(policy, costs):
    return sum(costs[entry] for entry in policy)


def enough_policies(world):
    """All policies that are enough, in the order in which policies of equal cost are compared."""
    reached = [[{order: world.end(store, order) for order in itertools.permutations(names)} for names in world.sets()]
               for store in world.stores]
    for policy in plain_policies(world.names):
        choices = [[end for order, end in ends.items() if allowed(policy, order)] for sets in reached for ends in sets]
        if all(len(set(ends)) == 1 for ends in choices):
            yield policy


def plain_cheapest(world, costs):
    return min(enough_policies(world), key=lambda policy: plain_cost(policy, costs))


def is_plain_doubt(world, doubt):
    store, one, other = doubt
    return (store in world.stores and set(one) == set(other) and set(one) <= set(world.names)
            and world.end(store, one) != world.end(store, other))


def least_forbidding(world, costs, doubts):
    """The least cost of a policy that forbids at least one order of each doubt."""
    return min(plain_cost(policy, costs) for policy in plain_policies(world.names)
               if all(not allowed(policy, one) or not allowed(policy, other) for store, one, other in doubts))


def plain_shows(world, costs, policy, table, doubts):
    cost = plain_cost(policy, costs)
    return (plain_split(world, policy) is None and cost == plain_cost(plain_cheapest(world, costs), costs)
            and table == plain_ends(world, policy) and all(is_plain_doubt(world, doubt) for doubt in doubts)
            and least_forbidding(world, costs, doubts) >= cost)


def plain_order(policy, received):
    order = []
    while len(order) < len(received):
        left = [name for name in received if name not in order]
        order.append(next(name for name in left if not any((other, name) in policy for other in left)))
    return tuple(order)


def plain_work(policy, arrival):
    work = 0
    old = ()
    for many in range(1, len(arrival) + 1):
        new = plain_order(policy, arrival[:many])
        same = max(size for size in range(many) if old[:size] == new[:size])
        work += many - same
        old = new
    return work
