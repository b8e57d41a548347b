"""What several tests use: wrong arguments, and sample worlds and policies made from a fixed seed."""

import itertools
import random

from orderpairs.changes import Add, AddSlot, If, Lower, Move, Put, Raise
from orderpairs.worlds import World


class Stranger:
    """An object that no part of the package knows."""


# Arguments of every kind; none of them is a valid argument of anything but what the tests skip.
STRANGERS = [
    None, True, False, -1, 10 ** 30, "", "0", "Reset", b"0", [], [0], (), ((),), (None,), {}, {"a": 1}, set(),
    frozenset(), object(), Stranger(), Stranger, len, range(2), [[[]]], ([],), ({},), (set(),),
]


def strangers(*skipped):
    """All wrong arguments except some that are valid where they are used."""
    return [value for value in STRANGERS if not any(value is other or value == other and type(value) is type(other)
                                                    for other in skipped)]


def sample_change(source, slots, inner=False):
    slot, other, value = source.randrange(slots), source.randrange(slots), source.randrange(8)
    makers = [lambda: Put(slot, value), lambda: Add(slot, value), lambda: AddSlot(slot, other),
              lambda: Raise(slot, value), lambda: Lower(slot, value)]
    if slot != other:
        makers.append(lambda: Move(slot, other))
    if not inner:
        makers.append(lambda: If(other, source.randrange(3), sample_change(source, slots, True)))
    return source.choice(makers)()


def sample_world(source):
    slots = source.randrange(1, 4)
    stores = []
    for _ in range(source.randrange(1, 5)):
        store = tuple(source.randrange(8) for _ in range(slots))
        if store not in stores:
            stores.append(store)
    names = source.sample(["zebra", "ant", "mole", "bee"], source.randrange(2, 5))
    return World(slots, stores, {name: sample_change(source, slots) for name in names})


def sample_policy(source, names):
    """Some pairs along a mixed order of the names, so that there is no cycle."""
    mixed = source.sample(names, len(names))
    pairs = [pair for pair in itertools.combinations(mixed, 2) if source.randrange(4)]
    source.shuffle(pairs)
    return {pair: True for pair in pairs}


def samples(many, seed=20):
    source = random.Random(seed)
    for _ in range(many):
        world = sample_world(source)
        yield world, sample_policy(source, world.names)
