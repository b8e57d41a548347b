"""The text of worlds and policies, written and read."""

from orderpairs.changes import Add, AddSlot, If, Lower, Move, Put, Raise
from orderpairs.errors import BadChange, BadPolicy, BadText, BadWorld
from orderpairs.policies import check_policy, entries_in_order
from orderpairs.worlds import World, check_world, is_name

DIGITS = "0123456789"


def world_text(world):
    check_world(world)
    lines = [f"slots {world.slots}"]
    lines += ["store " + " ".join([str(value) for value in store]) for store in world.stores]
    lines += [f"change {name} {change_text(world.change(name))}" for name in world.names]
    return text_of(lines)


def policy_text(world, policy):
    check_world(world)
    check_policy(world, policy)
    return text_of([f"first {one} {other}" for one, other in entries_in_order(world, policy)])


def read_world(text):
    lines, rest = lines_and_rest(text)
    slots = 0
    stores = []
    changes = []
    for row, line in enumerate(lines):
        words = line.split(" ")
        if row == 0 and is_slots_line(words):
            slots = int(words[1])
        elif row > 0 and is_store_line(words) and not changes:
            stores.append(tuple([int(word) for word in words[1:]]))
        elif row > 0 and is_change_line(words):
            changes.append((words[1], change_of(words[2:])))
        else:
            raise BadText(row)
    if rest or not lines:
        raise BadText(len(lines))
    return world_of(slots, stores, changes)


def read_policy(world, text):
    check_world(world)
    lines, rest = lines_and_rest(text)
    pairs = []
    for row, line in enumerate(lines):
        words = line.split(" ")
        if not is_policy_line(words):
            raise BadText(row)
        pairs.append((words[1], words[2]))
    if rest:
        raise BadText(len(lines))
    return policy_of(world, pairs)


def text_of(lines):
    return "".join([line + "\n" for line in lines])


def change_text(change):
    if isinstance(change, If):
        return f"if {change.slot} {change.value} {change_text(change.inner)}"
    if isinstance(change, Move):
        return f"move {change.slot} {change.source}"
    if isinstance(change, AddSlot):
        return f"addslot {change.slot} {change.source}"
    if isinstance(change, Put):
        return f"put {change.slot} {change.value}"
    if isinstance(change, Add):
        return f"add {change.slot} {change.value}"
    if isinstance(change, Raise):
        return f"raise {change.slot} {change.value}"
    return f"lower {change.slot} {change.value}"


def lines_and_rest(text):
    """The list of the lines of a text, and what follows the last line feed."""
    if not isinstance(text, str):
        raise BadText(0)
    pieces = text.split("\n")
    return pieces[:-1], pieces[-1]


def is_digit(word):
    return len(word) == 1 and word in DIGITS


def is_slots_line(words):
    return len(words) == 2 and words[0] == "slots" and is_digit(words[1])


def is_store_line(words):
    return len(words) > 1 and words[0] == "store" and all([is_digit(word) for word in words[1:]])


def is_change_line(words):
    if len(words) < 2 or words[0] != "change" or not is_name(words[1]):
        return False
    try:
        change_of(words[2:])
    except BadChange:
        return False
    return True


def is_policy_line(words):
    return len(words) == 3 and words[0] == "first" and is_name(words[1]) and is_name(words[2])


def change_of(words):
    # Only a plain change can stand in an if, so that no line is read to any depth.
    if len(words) == 6 and words[0] == "if":
        return If(number_of(words[1]), number_of(words[2]), plain_change(words[3:]))
    return plain_change(words)


def plain_change(words):
    """The change, not an if, of these words."""
    if len(words) != 3:
        raise BadChange("not a word and two numbers")
    kind = words[0]
    slot = number_of(words[1])
    number = number_of(words[2])
    if kind == "put":
        return Put(slot, number)
    if kind == "move":
        return Move(slot, number)
    if kind == "add":
        return Add(slot, number)
    if kind == "addslot":
        return AddSlot(slot, number)
    if kind == "raise":
        return Raise(slot, number)
    if kind == "lower":
        return Lower(slot, number)
    raise BadChange("not the word of a change")


def number_of(word):
    if not is_digit(word):
        raise BadChange("not a number of one digit")
    return int(word)


def world_of(slots, stores, changes):
    """The world of these parts; the changes are a list of pairs, in which a name may occur twice."""
    named = {name: change for name, change in changes}
    if len(named) != len(changes):
        raise BadText(0)
    try:
        return World(slots, stores, named)
    except BadWorld:
        raise BadText(0) from None


def policy_of(world, pairs):
    """The policy of these entries, if they are one in order."""
    policy = {pair: True for pair in pairs}
    try:
        check_policy(world, policy)
    except BadPolicy:
        raise BadText(0) from None
    if entries_in_order(world, policy) != pairs:
        raise BadText(0)
    return policy
