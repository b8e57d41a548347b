import inspect
import itertools
import unittest

from orderpairs.changes import Add, AddSlot, If, Move, Put
from orderpairs.errors import BadName, BadOrder, BadStore, BadWorld
from orderpairs.worlds import World
from tests.helping import Stranger, samples, strangers


def two():
    return {"reset": Put(0, 0), "count": Add.one(0)}


def example():
    return World(1, [(2,)], two())


class Making(unittest.TestCase):
    def refused(self, slots, stores, changes):
        with self.assertRaises(BadWorld) as caught:
            World(slots, stores, changes)
        return caught.exception.part

    def test_the_edges_are_accepted(self):
        for slots in (1, 2, 3):
            World(slots, [(0,) * slots], two())
        World(1, [(value,) for value in range(8)], two())
        World(1, ((0,), (7,)), two())
        four = {"a": Put(0, 0), "abcdefgh": Put(0, 0), "z": Put(0, 0), "zzzzzzzz": Put(0, 0)}
        self.assertEqual(World(1, [(0,)], four).names, list(four))

    def test_arguments_have_the_names_of_the_interface(self):
        self.assertEqual(World(slots=1, stores=[(2,)], changes=two()), example())

    def test_wrong_slots(self):
        for slots in strangers() + [0, 4, "1", (1,)]:
            self.assertEqual(self.refused(slots, [(2,)], two()), "SLOTS")

    def test_slots_are_checked_first(self):
        self.assertEqual(self.refused(0, [], {}), "SLOTS")
        self.assertEqual(self.refused(True, None, None), "SLOTS")

    def test_wrong_stores(self):
        wrong = strangers() + [
            [(value % 8, value // 8) for value in range(9)], [(0, 0), (0, 0)], [(0, 0), (1, 1), (0, 0)], [(0,)],
            [(0, 0, 0)], [(0, 0), (0,)], [[0, 0]], [(0, 8)], [(0, -1)], [(0, True)], [(False, 0)], [(0, "0")], ["00"],
            (0, 0), {(0, 0): True}, {(0, 0)}, "00", iter([(0, 0)]), [None], [(0, 0), 5], [(0, 0), (0, [0])],
        ]
        for stores in wrong:
            self.assertEqual(self.refused(2, stores, two()), "STORES", stores)

    def test_a_boolean_does_not_equal_a_number_in_a_store(self):
        self.assertEqual(self.refused(1, [(1,), (True,)], two()), "STORES")

    def test_stores_are_checked_before_changes(self):
        self.assertEqual(self.refused(1, [], {}), "STORES")
        self.assertEqual(self.refused(1, None, {"A": None, "b": None}), "STORES")

    def test_wrong_numbers_of_changes(self):
        five = {name: Put(0, 0) for name in "abcde"}
        for changes in strangers() + [{"a": Put(0, 0)}, five, list(two().items()), ["a", "b"], {"A": None}]:
            self.assertIsNone(self.refused(1, [(0,)], changes))

    def test_wrong_names(self):
        for name in ["", "abcdefghi", "Reset", "re set", "reset1", "re_set", "a\n", "\u00e4", "\u03b1", "1", 1, 0, -1,
                     True, None, b"reset", (), ("a",), ("a", True), Stranger, frozenset()]:
            part = self.refused(1, [(0,)], {"count": Put(0, 0), name: Put(0, 0)})
            self.assertEqual(part, name)
            self.assertIs(type(part), type(name))

    def test_wrong_changes(self):
        for change in strangers() + [Put, Put(1, 0), AddSlot(0, 1), Move(0, 1), If(1, 0, Put(0, 0)),
                                     If(0, 0, Put(1, 0)), If(0, 5, AddSlot(0, 2))]:
            self.assertEqual(self.refused(1, [(0,)], {"count": Put(0, 0), "reset": change}), "reset")
        self.assertEqual(self.refused(2, [(0, 0)], {"count": Move(0, 1), "reset": Put(2, 0)}), "reset")

    def test_the_first_wrong_name_counts(self):
        self.assertEqual(self.refused(1, [(0,)], {"ok": Put(0, 0), "b": None, "A": Put(0, 0)}), "b")
        self.assertEqual(self.refused(1, [(0,)], {"ok": Put(0, 0), "A": Put(0, 0), "b": None}), "A")
        self.assertEqual(self.refused(1, [(0,)], {"z": Put(1, 0), "a": Put(1, 0)}), "z")

    def test_two_names_may_have_the_same_change(self):
        change = Put(0, 1)
        self.assertEqual(World(1, [(0,)], {"a": change, "b": change}).names, ["a", "b"])


class Parts(unittest.TestCase):
    def test_the_properties(self):
        world = World(2, ((3, 1), (0, 0)), {"reset": Put(0, 0), "count": Move(1, 0), "a": Put(1, 1)})
        self.assertEqual(world.slots, 2)
        self.assertEqual(world.stores, [(3, 1), (0, 0)])
        self.assertEqual(world.names, ["reset", "count", "a"])
        self.assertIs(type(world.stores), list)
        self.assertIs(type(world.names), list)

    def test_the_lists_of_the_properties_are_new(self):
        world = example()
        world.stores.append((5,))
        world.names.append("other")
        self.assertEqual([world.stores, world.names], [[(2,)], ["reset", "count"]])

    def test_arguments_are_neither_modified_nor_kept(self):
        stores, changes = [(2,)], two()
        world = World(1, stores, changes)
        self.assertEqual([stores, changes], [[(2,)], two()])
        stores.append((5,))
        changes["other"] = Put(0, 7)
        changes["reset"] = Put(0, 7)
        self.assertEqual(world, example())

    def test_change(self):
        self.assertEqual(example().change("reset"), Put(0, 0))
        self.assertEqual(example().change(name="count"), Add(0, 1))

    def test_names_that_are_no_changes_of_the_world(self):
        for name in strangers() + ["rese", "other", ("reset",), ["reset"]]:
            self.assertRaises(BadName, example().change, name)


class Equality(unittest.TestCase):
    def test_equal_worlds(self):
        self.assertTrue(example() == World(1, ((2,),), two()))
        self.assertFalse(example() != World(1, ((2,),), two()))

    def test_different_worlds(self):
        wide = World(2, [(2, 0)], two())
        turned = World(1, [(2,)], {"count": Add.one(0), "reset": Put(0, 0)})
        other_store = World(1, [(3,)], two())
        more_stores = World(1, [(2,), (3,)], two())
        turned_stores = World(1, [(3,), (2,)], two())
        other_change = World(1, [(2,)], {"reset": Put(0, 1), "count": Add.one(0)})
        other_name = World(1, [(2,)], {"set": Put(0, 0), "count": Add.one(0)})
        more_changes = World(1, [(2,)], {"reset": Put(0, 0), "count": Add.one(0), "more": Put(0, 0)})
        swapped = World(1, [(2,)], {"reset": Add.one(0), "count": Put(0, 0)})
        worlds = [example(), wide, turned, other_store, more_stores, turned_stores, other_change, other_name,
                  more_changes, swapped]
        for one, other in itertools.permutations(worlds, 2):
            self.assertFalse(one == other)
            self.assertTrue(one != other)

    def test_other_values(self):
        for other in strangers():
            self.assertFalse(example() == other)


class Ends(unittest.TestCase):
    def test_from_any_store(self):
        for value in range(8):
            self.assertEqual(example().end((value,), ("count",)), ((value + 1) % 8,))
            self.assertEqual(example().end((value,), ()), (value,))

    def test_changes_are_applied_one_after_another(self):
        for world, _ in samples(40):
            for many in range(len(world.names) + 1):
                for order in itertools.permutations(world.names, many):
                    store = world.stores[0]
                    for name in order:
                        store = world.change(name).apply(store)
                    self.assertEqual(world.end(world.stores[0], order), store)

    def test_keywords(self):
        self.assertEqual(example().end(order=("count",), store=(7,)), (0,))

    def test_wrong_stores(self):
        for store in strangers() + [(0, 0), (8,), (True,), [2], 2, ("2",)]:
            self.assertRaises(BadStore, example().end, store, ())
            self.assertRaises(BadStore, example().end, store, ["reset"])

    def test_wrong_orders(self):
        wrong = strangers(()) + [("reset", "reset"), ("reset", "other"), ["reset"], "reset", ("reset", True),
                                 ("reset", ["count"]), ("reset", None), ("reset", "count", "reset"), (("reset",),)]
        for order in wrong:
            self.assertRaises(BadOrder, example().end, (2,), order)


class Sets(unittest.TestCase):
    def test_sizes_then_indices(self):
        world = World(1, [(0,)], {"d": Put(0, 0), "a": Put(0, 0), "c": Put(0, 0), "b": Put(0, 0)})
        self.assertEqual(list(world.sets()), [
            (), ("d",), ("a",), ("c",), ("b",), ("d", "a"), ("d", "c"), ("d", "b"), ("a", "c"), ("a", "b"),
            ("c", "b"), ("d", "a", "c"), ("d", "a", "b"), ("d", "c", "b"), ("a", "c", "b"), ("d", "a", "c", "b")])

    def test_all_combinations(self):
        for world, _ in samples(20):
            wanted = [names for many in range(len(world.names) + 1)
                      for names in itertools.combinations(world.names, many)]
            self.assertEqual(list(world.sets()), wanted)

    def test_it_is_a_generator(self):
        self.assertTrue(inspect.isgenerator(example().sets()))

    def test_the_example_of_the_interface(self):
        world = World(1, [(2,)], {'reset': Put(0, 0), 'count': Add.one(0)})
        found = [world.end((2,), ('reset', 'count')), world.end((2,), ('count', 'reset')), list(world.sets())]
        self.assertEqual(found, [(1,), (0,), [(), ('reset',), ('count',), ('reset', 'count')]])


class Interface(unittest.TestCase):
    def test_the_class_has_its_own_methods(self):
        self.assertEqual(World.__module__, "orderpairs.worlds")
        for name in ("__init__", "__eq__", "slots", "stores", "names", "change", "end", "sets"):
            self.assertIn(name, vars(World))


if __name__ == "__main__":
    unittest.main()
