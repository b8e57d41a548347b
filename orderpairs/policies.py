"""Policies: which pairs of changes are put in order, and at which stores the allowed orders end."""

from orderpairs.errors import BadOrder, BadPolicy, BadTable, NotEnough
from orderpairs.worlds import check_world, is_known, is_set, is_start, is_store_of


def orders(world, policy, names):
    check_world(world)
    check_policy(world, policy)
    if not is_set(world, names):
        raise BadOrder("not a tuple of different names in the order of the world")
    yield from allowed_orders(policy, names)


def is_enough(world, policy):
    check_world(world)
    check_policy(world, policy)
    return find_split(world, policy) is None


def first_split(world, policy):
    check_world(world)
    check_policy(world, policy)
    return find_split(world, policy)


def ends(world, policy):
    check_world(world)
    check_policy(world, policy)
    check_enough(world, policy)
    found = {}
    for start, names in stores_and_sets(world):
        # All allowed orders end alike here, so that any of them will do.
        found[(start, names)] = world.end(start, allowed_orders(policy, names)[0])
    return found


def trimmed(world, policy):
    check_world(world)
    check_policy(world, policy)
    check_enough(world, policy)
    kept = {pair: True for pair in entries_in_order(world, policy)}
    for pair in entries_in_order(world, policy):
        fewer = {other: True for other in kept if other != pair}
        if find_split(world, fewer) is None:
            kept = fewer
    return kept


def is_table(world, policy, table):
    check_world(world)
    check_policy(world, policy)
    check_table(world, table)
    for start, names in stores_and_sets(world):
        if not is_right_end(world, policy, table, start, names):
            return False
    return True


def check_policy(world, policy):
    if not isinstance(policy, dict):
        raise BadPolicy("not a dict")
    for pair, mark in policy.items():
        if not is_pair(world, pair) or mark is not True:
            raise BadPolicy("not an entry from a pair of different names to True")
    if has_cycle(policy, world.names):
        raise BadPolicy("the entries form a cycle")


def is_pair(world, pair):
    """Whether this is a pair of different names of the world."""
    if not isinstance(pair, tuple) or len(pair) != 2:
        return False
    return is_known(world, pair[0]) and is_known(world, pair[1]) and pair[0] != pair[1]


def has_cycle(policy, names):
    left = names
    while left:
        free = free_names(policy, left)
        if not free:
            return True
        left = [name for name in left if name not in free]
    return False


def free_names(policy, names):
    """Those of the names that come behind no other one of them."""
    return [name for name in names if not any([(other, name) in policy for other in names])]


def last_names(policy, names):
    """Those of the names that come before no other one of them."""
    return [name for name in names if not any([(name, other) in policy for other in names])]


def without(names, name):
    return tuple([other for other in names if other != name])


def allowed_orders(policy, names):
    """The list of all allowed orders of the names; it is in order if the names are."""
    if not names:
        return [()]
    found = []
    for name in free_names(policy, names):
        found += [(name,) + rest for rest in allowed_orders(policy, without(names, name))]
    return found


def stores_and_sets(world):
    """The list of all pairs of an initial store and a set, in the order of a table of ends."""
    pairs = []
    for start in world.stores:
        for names in world.sets():
            pairs.append((start, names))
    return pairs


def find_split(world, policy):
    for start, names in stores_and_sets(world):
        split = split_of(world, start, allowed_orders(policy, names))
        if split is not None:
            return split
    return None


def split_of(world, start, choices):
    """The first one of the orders and the first other one that ends differently, with the store."""
    end = world.end(start, choices[0])
    for order in choices:
        if world.end(start, order) != end:
            return (start, choices[0], order)
    return None


def check_enough(world, policy):
    if find_split(world, policy) is not None:
        raise NotEnough("the policy has a split")


def entries_in_order(world, policy):
    """The list of the entries of a policy, as pairs of indices."""
    names = world.names
    return [(one, other) for one in names for other in names if (one, other) in policy]


def check_table(world, table):
    if not isinstance(table, dict) or len(table) != len(stores_and_sets(world)):
        raise BadTable("not a dict with as many keys as there are initial stores and sets")
    for key, end in table.items():
        if not is_table_key(world, key) or not is_store_of(end, world.slots):
            raise BadTable("not an entry from an initial store and a set to a store")


def is_table_key(world, key):
    if not isinstance(key, tuple) or len(key) != 2:
        return False
    return is_start(world, key[0]) and is_set(world, key[1])


def is_right_end(world, policy, table, start, names):
    """Whether the end of a set is as the ends of the sets that have one change less require."""
    end = table[(start, names)]
    if not names:
        return end == start
    reached = [world.change(name).apply(table[(start, without(names, name))]) for name in last_names(policy, names)]
    return all([other == end for other in reached])
