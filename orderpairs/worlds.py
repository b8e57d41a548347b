"""Worlds: initial stores and named changes that can be concurrent."""

from orderpairs.changes import MOST_SLOTS, Change, is_number, is_store
from orderpairs.errors import BadName, BadOrder, BadStore, BadWorld

LETTERS = "abcdefghijklmnopqrstuvwxyz"
MOST_LETTERS = 8
MOST_STORES = 8
LEAST_CHANGES = 2
MOST_CHANGES = 4


class World:
    """A number of slots, different initial stores, and named changes in an order."""

    def __init__(self, slots, stores, changes):
        if not is_number(slots, 1, MOST_SLOTS):
            raise BadWorld("SLOTS")
        if not are_initial_stores(stores, slots):
            raise BadWorld("STORES")
        check_changes(changes, slots)
        self.width = slots
        self.starts = list(stores)
        self.made = {name: changes[name] for name in changes}

    def __eq__(self, other):
        # Equal dicts may still have their names in different orders.
        return (isinstance(other, World) and self.width == other.width and self.starts == other.starts
                and self.names == other.names and self.made == other.made)

    @property
    def slots(self):
        return self.width

    @property
    def stores(self):
        return list(self.starts)

    @property
    def names(self):
        return list(self.made)

    def change(self, name):
        if not is_known(self, name):
            raise BadName("not a change of the world")
        return self.made[name]

    def end(self, store, order):
        if not is_store_of(store, self.width):
            raise BadStore("not a store with the number of slots of the world")
        if not is_order(self, order):
            raise BadOrder("not a tuple of different names of the world")
        reached = store
        for name in order:
            reached = self.made[name].apply(reached)
        return reached

    def sets(self):
        names = self.names
        chosen = [()]
        while chosen:
            for places in chosen:
                yield tuple([names[at] for at in places])
            chosen = one_larger(chosen, len(names))


def check_world(world):
    if not isinstance(world, World):
        raise BadWorld(None)


def is_known(world, name):
    """Whether this is the name of a change of the world."""
    return isinstance(name, str) and name in world.made


def is_order(world, order):
    """Whether this is a tuple of different names of the world."""
    if not isinstance(order, tuple) or not all([is_known(world, name) for name in order]):
        return False
    return len(set(order)) == len(order)


def is_set(world, names):
    """Whether this is a tuple of different names in the order of the world."""
    return is_order(world, names) and list(names) == [name for name in world.names if name in names]


def is_store_of(store, slots):
    return is_store(store) and len(store) == slots


def is_start(world, store):
    """Whether this is an initial store of the world."""
    # A tuple with True in it equals one with 1, so that being among the initial stores is not enough.
    return is_store_of(store, world.width) and store in world.starts


def are_initial_stores(stores, slots):
    if not isinstance(stores, (list, tuple)) or not 1 <= len(stores) <= MOST_STORES:
        return False
    return all([is_store_of(store, slots) for store in stores]) and len(set(stores)) == len(stores)


def check_changes(changes, slots):
    if not isinstance(changes, dict) or not LEAST_CHANGES <= len(changes) <= MOST_CHANGES:
        raise BadWorld(None)
    for name, change in changes.items():
        if not is_name(name) or not uses_only(change, slots):
            raise BadWorld(name)


def is_name(name):
    if not isinstance(name, str) or not 1 <= len(name) <= MOST_LETTERS:
        return False
    return all([letter in LETTERS for letter in name])


def uses_only(change, slots):
    """Whether this is a change that uses only the first slots, as many as this."""
    return isinstance(change, Change) and all([slot < slots for slot in change.slots])


def one_larger(chosen, many):
    """The ascending tuples of indices below a number that add one index to one of the chosen."""
    return [places + (at,) for places in chosen for at in range(many) if places == () or places[-1] < at]
