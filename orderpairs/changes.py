"""Stores, and the changes that compute a store from a store."""

from orderpairs.errors import BadChange, BadStore

MOST_SLOTS = 3


class Change:
    """The base class of all changes; on its own it uses no slot and changes nothing."""

    MODULUS = 8

    def __eq__(self, other):
        return isinstance(other, Change) and self.slots == other.slots

    @property
    def slots(self):
        return []

    def apply(self, store):
        check_store(store, self.slots)
        return store


class Put(Change):
    """Assigns a value to a slot."""

    def __init__(self, slot, value):
        check_slot(slot)
        check_value(value)
        self.slot = slot
        self.value = value

    def __eq__(self, other):
        return isinstance(other, Put) and self.slot == other.slot and self.value == other.value

    @property
    def slots(self):
        return [self.slot]

    def apply(self, store):
        check_store(store, self.slots)
        return replaced(store, self.slot, self.value)


class Move(Change):
    """Assigns the value of another slot to a slot."""

    def __init__(self, slot, source):
        check_slot(slot)
        check_slot(source)
        if slot == source:
            raise BadChange("a move takes two different slots")
        self.slot = slot
        self.source = source

    def __eq__(self, other):
        return isinstance(other, Move) and self.slot == other.slot and self.source == other.source

    @property
    def slots(self):
        return sorted([self.slot, self.source])

    def apply(self, store):
        check_store(store, self.slots)
        return replaced(store, self.slot, store[self.source])


class Add(Change):
    """Adds a value to a slot."""

    def __init__(self, slot, value):
        check_slot(slot)
        check_value(value)
        self.slot = slot
        self.value = value

    @classmethod
    def one(cls, slot):
        return cls(slot, 1)

    def __eq__(self, other):
        return isinstance(other, Add) and self.slot == other.slot and self.value == other.value

    @property
    def slots(self):
        return [self.slot]

    def apply(self, store):
        check_store(store, self.slots)
        return replaced(store, self.slot, (store[self.slot] + self.value) % Change.MODULUS)


class AddSlot(Change):
    """Adds the value of a slot, possibly of the same one, to a slot."""

    def __init__(self, slot, source):
        check_slot(slot)
        check_slot(source)
        self.slot = slot
        self.source = source

    def __eq__(self, other):
        return isinstance(other, AddSlot) and self.slot == other.slot and self.source == other.source

    @property
    def slots(self):
        return sorted(set([self.slot, self.source]))

    def apply(self, store):
        check_store(store, self.slots)
        return replaced(store, self.slot, (store[self.slot] + store[self.source]) % Change.MODULUS)


class Raise(Change):
    """Assigns the greater one of a slot's value and a value to the slot."""

    def __init__(self, slot, value):
        check_slot(slot)
        check_value(value)
        self.slot = slot
        self.value = value

    def __eq__(self, other):
        return isinstance(other, Raise) and self.slot == other.slot and self.value == other.value

    @property
    def slots(self):
        return [self.slot]

    def apply(self, store):
        check_store(store, self.slots)
        return replaced(store, self.slot, max(store[self.slot], self.value))


class Lower(Change):
    """Assigns the lesser one of a slot's value and a value to the slot."""

    def __init__(self, slot, value):
        check_slot(slot)
        check_value(value)
        self.slot = slot
        self.value = value

    def __eq__(self, other):
        return isinstance(other, Lower) and self.slot == other.slot and self.value == other.value

    @property
    def slots(self):
        return [self.slot]

    def apply(self, store):
        check_store(store, self.slots)
        return replaced(store, self.slot, min(store[self.slot], self.value))


class If(Change):
    """Applies another change if a slot has a value, and changes nothing otherwise."""

    def __init__(self, slot, value, change):
        check_slot(slot)
        check_value(value)
        if not isinstance(change, Change) or isinstance(change, If):
            raise BadChange("an if takes a change that is not an if")
        self.slot = slot
        self.value = value
        self.inner = change

    def __eq__(self, other):
        return (isinstance(other, If) and self.slot == other.slot and self.value == other.value
                and self.inner == other.inner)

    @property
    def slots(self):
        return sorted(set([self.slot] + self.inner.slots))

    def apply(self, store):
        check_store(store, self.slots)
        return self.inner.apply(store) if store[self.slot] == self.value else store


def is_number(value, least, most):
    # Python counts True and False among the integers, the document does not.
    return isinstance(value, int) and not isinstance(value, bool) and least <= value <= most


def is_store(store):
    if not isinstance(store, tuple) or not 1 <= len(store) <= MOST_SLOTS:
        return False
    return all([is_number(value, 0, Change.MODULUS - 1) for value in store])


def check_slot(slot):
    if not is_number(slot, 0, MOST_SLOTS - 1):
        raise BadChange("not a slot from 0 to 2")


def check_value(value):
    if not is_number(value, 0, Change.MODULUS - 1):
        raise BadChange("not a value from 0 to 7")


def check_store(store, slots):
    if not is_store(store) or not all([slot < len(store) for slot in slots]):
        raise BadStore("not a store that has all slots of the change")


def replaced(store, slot, value):
    return store[:slot] + (value,) + store[slot + 1:]
