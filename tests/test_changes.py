import itertools
import unittest

from orderpairs.changes import Add, AddSlot, Change, If, Lower, Move, Put, Raise
from orderpairs.errors import BadChange, BadStore
from tests.helping import strangers

VALUED = [Put, Add, Raise, Lower]
SOURCED = [Move, AddSlot]
NOT_SLOTS = strangers() + [3, 4]
NOT_VALUES = strangers() + [8, 9]


def one_of_each():
    return [Put(0, 1), Move(0, 1), Add(0, 1), AddSlot(0, 1), Raise(0, 1), Lower(0, 1), If(0, 1, Put(0, 1))]


class Making(unittest.TestCase):
    def test_all_are_changes(self):
        for change in one_of_each():
            self.assertIsInstance(change, Change)

    def test_the_edges_are_accepted(self):
        for slot in (0, 1, 2):
            for value in range(8):
                for kind in VALUED:
                    kind(slot, value)
                If(slot, value, Put(slot, value))
            for source in (0, 1, 2):
                AddSlot(slot, source)
                if slot != source:
                    Move(slot, source)

    def test_arguments_have_the_names_of_the_interface(self):
        for kind in VALUED:
            self.assertEqual(kind(slot=1, value=2), kind(1, 2))
        for kind in SOURCED:
            self.assertEqual(kind(slot=1, source=2), kind(1, 2))
        self.assertEqual(If(slot=1, value=2, change=Put(0, 0)), If(1, 2, Put(0, 0)))
        self.assertEqual(Add.one(slot=2), Add(2, 1))

    def test_wrong_slots(self):
        for slot in NOT_SLOTS:
            for make in [lambda: If(slot, 0, Put(0, 0)), lambda: Add.one(slot)]:
                self.assertRaises(BadChange, make)
            for kind in VALUED + SOURCED:
                self.assertRaises(BadChange, kind, slot, 1)
            for kind in SOURCED:
                self.assertRaises(BadChange, kind, 1, slot)

    def test_wrong_values(self):
        for value in NOT_VALUES:
            for kind in VALUED:
                self.assertRaises(BadChange, kind, 0, value)
            self.assertRaises(BadChange, If, 0, value, Put(0, 0))

    def test_a_move_has_two_different_slots(self):
        for slot in (0, 1, 2):
            self.assertRaises(BadChange, Move, slot, slot)

    def test_an_if_applies_a_change_that_is_no_if(self):
        for change in strangers() + [If(0, 0, Put(0, 0)), Put]:
            self.assertRaises(BadChange, If, 0, 0, change)

    def test_add_one(self):
        for slot in (0, 1, 2):
            self.assertEqual(Add.one(slot), Add(slot, 1))
            self.assertIsInstance(Add.one(slot), Add)

    def test_the_modulus(self):
        self.assertEqual(Change.MODULUS, 8)
        self.assertEqual(Put(0, 0).MODULUS, 8)


class Equality(unittest.TestCase):
    def test_equal_parts_of_the_same_class(self):
        for one, other in zip(one_of_each(), one_of_each()):
            self.assertTrue(one == other)
            self.assertFalse(one != other)

    def test_other_classes(self):
        for one, other in itertools.permutations(one_of_each(), 2):
            self.assertFalse(one == other)
            self.assertTrue(one != other)

    def test_other_parts(self):
        for kind in VALUED:
            self.assertNotEqual(kind(0, 1), kind(1, 1))
            self.assertNotEqual(kind(0, 1), kind(0, 2))
        for kind in SOURCED:
            self.assertNotEqual(kind(0, 1), kind(2, 1))
            self.assertNotEqual(kind(0, 1), kind(0, 2))
        self.assertNotEqual(If(0, 1, Put(0, 1)), If(1, 1, Put(0, 1)))
        self.assertNotEqual(If(0, 1, Put(0, 1)), If(0, 2, Put(0, 1)))
        self.assertNotEqual(If(0, 1, Put(0, 1)), If(0, 1, Put(0, 2)))
        self.assertNotEqual(If(0, 1, Put(0, 1)), If(0, 1, Add(0, 1)))

    def test_other_values(self):
        for change in one_of_each():
            for other in strangers():
                self.assertFalse(change == other)


class Slots(unittest.TestCase):
    def test_ascending_without_duplicates(self):
        for kind in VALUED:
            self.assertEqual(kind(2, 7).slots, [2])
        self.assertEqual(Move(2, 0).slots, [0, 2])
        self.assertEqual(AddSlot(2, 1).slots, [1, 2])
        self.assertEqual(AddSlot(1, 1).slots, [1])
        self.assertEqual(If(1, 0, Put(1, 0)).slots, [1])
        self.assertEqual(If(2, 0, Move(1, 0)).slots, [0, 1, 2])
        self.assertEqual(If(1, 0, Move(2, 1)).slots, [1, 2])

    def test_the_list_is_new(self):
        for change in one_of_each():
            slots = change.slots
            kept = list(slots)
            slots.append(9)
            self.assertEqual(change.slots, kept)


class Applying(unittest.TestCase):
    def test_what_each_change_does_to_all_values(self):
        for held, value in itertools.product(range(8), range(8)):
            store = (held, value)
            self.assertEqual(Put(0, value).apply(store), (value, value))
            self.assertEqual(Move(0, 1).apply(store), (value, value))
            self.assertEqual(Move(1, 0).apply(store), (held, held))
            self.assertEqual(Add(0, value).apply(store), ((held + value) % 8, value))
            self.assertEqual(AddSlot(0, 1).apply(store), ((held + value) % 8, value))
            self.assertEqual(AddSlot(0, 0).apply(store), (held * 2 % 8, value))
            self.assertEqual(Raise(0, value).apply(store), (max(held, value), value))
            self.assertEqual(Lower(0, value).apply(store), (min(held, value), value))
            self.assertEqual(If(0, 3, Put(1, 5)).apply(store), (held, 5 if held == 3 else value))

    def test_only_the_slot_is_changed(self):
        self.assertEqual(Put(1, 7).apply((1, 2, 3)), (1, 7, 3))
        self.assertEqual(Add(2, 7).apply((1, 2, 3)), (1, 2, 2))
        self.assertEqual(Move(0, 2).apply((1, 2, 3)), (3, 2, 3))

    def test_every_inner_change_of_an_if(self):
        for inner in one_of_each()[:-1]:
            self.assertEqual(If(1, 3, inner).apply((6, 3)), inner.apply((6, 3)))
            self.assertEqual(If(1, 3, inner).apply((6, 2)), (6, 2))

    def test_the_result_is_a_tuple(self):
        for change in one_of_each():
            self.assertIs(type(change.apply((1, 2, 3))), tuple)

    def test_values_that_are_no_stores(self):
        wrong = strangers() + [(0, 0, 0, 0), (0, 8), (0, -1), (0, True), (False, 0), (0, "1"), (0, None), [0, 0],
                               (0, [0]), ((0, 0), 0), "00", b"00", {0: 0, 1: 0}, 5]
        for store in wrong:
            for change in one_of_each():
                self.assertRaises(BadStore, change.apply, store)

    def test_stores_without_all_slots(self):
        for kind in VALUED:
            self.assertRaises(BadStore, kind(1, 0).apply, (0,))
            self.assertRaises(BadStore, kind(2, 0).apply, (0, 0))
        self.assertRaises(BadStore, Move(0, 1).apply, (0,))
        self.assertRaises(BadStore, AddSlot(1, 2).apply, (0, 0))
        self.assertRaises(BadStore, If(1, 0, Put(0, 0)).apply, (0,))

    def test_an_if_needs_the_slots_of_its_change_even_if_it_is_not_applied(self):
        self.assertRaises(BadStore, If(0, 5, Put(1, 0)).apply, (0,))
        self.assertRaises(BadStore, If(0, 5, AddSlot(0, 2)).apply, (0, 0))

    def test_the_example_of_the_interface(self):
        change = If(1, 3, AddSlot(0, 1))
        found = [change.apply((6, 3)), change.apply((6, 2)), change.slots, Add.one(0) == Add(0, 1),
                 Raise(0, 5).apply((2,))]
        self.assertEqual(found, [(1, 3), (6, 2), [0, 1], True, (5,)])


class Interface(unittest.TestCase):
    def test_each_class_has_its_own_methods(self):
        for kind in [Change, Put, Move, Add, AddSlot, Raise, Lower, If]:
            self.assertEqual(kind.__module__, "orderpairs.changes")
            for name in ("slots", "apply", "__eq__"):
                self.assertIn(name, vars(kind), kind)
        self.assertIn("one", vars(Add))
        self.assertIn("MODULUS", vars(Change))


if __name__ == "__main__":
    unittest.main()
