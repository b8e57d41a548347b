import inspect
import itertools
import unittest

from orderpairs import policies
from orderpairs.changes import Add, If, Lower, Put, Raise
from orderpairs.errors import BadOrder, BadPolicy, BadTable, BadWorld, NotEnough
from orderpairs.policies import ends, first_split, is_enough, is_table, orders, trimmed
from orderpairs.worlds import World
from tests.helping import samples, strangers
from tests.plain import plain_ends, plain_orders, plain_split, plain_trimmed

RESET_FIRST = {("reset", "count"): True}


def example():
    return World(1, [(2,)], {"reset": Put(0, 0), "count": Add.one(0)})


def four():
    return World(1, [(0,)], {"d": Put(0, 0), "a": Put(0, 1), "c": Put(0, 2), "b": Put(0, 3)})


def apart():
    """A world whose changes commute, each in its own slot."""
    return World(3, [(0, 0, 0), (7, 7, 7)], {"c": Add.one(0), "a": Raise(1, 3), "b": Lower(2, 3)})


def all_calls(world, policy):
    """All functions that take a world and a policy, each with valid other arguments."""
    return [lambda: next(orders(world, policy, ())), lambda: is_enough(world, policy),
            lambda: first_split(world, policy), lambda: ends(world, policy), lambda: trimmed(world, policy),
            lambda: is_table(world, policy, {})]


class WrongArguments(unittest.TestCase):
    def test_wrong_worlds(self):
        for world in strangers() + [World, (1, [(2,)], {})]:
            for policy in ({}, None):
                for call in all_calls(world, policy):
                    with self.assertRaises(BadWorld) as caught:
                        call()
                    self.assertIsNone(caught.exception.part)

    def test_wrong_policies(self):
        pair = ("reset", "count")
        wrong = strangers({}) + [
            {pair: False}, {pair: 1}, {pair: None}, {pair: "True"}, {pair: []}, {"reset": True}, {1: True},
            {True: True}, {None: True}, {(): True}, {("reset",): True}, {("reset", "count", "count"): True},
            {("reset", "reset"): True}, {("reset", "other"): True}, {("other", "count"): True},
            {("reset", True): True}, {(0, 1): True}, {(("reset",), "count"): True}, {frozenset(pair): True},
            {"re": True}, {b"re": True}, [pair], {pair}, (pair,), {pair: True, ("count", "reset"): True},
            {pair: True, "x": True}, {pair: True, ("reset", "other"): False},
        ]
        for policy in wrong:
            for call in all_calls(example(), policy):
                self.assertRaises(BadPolicy, call)

    def test_cycles(self):
        world = four()
        for cycle in [("d", "a"), ("d", "a", "c"), ("a", "c", "b"), ("d", "a", "c", "b"), ("b", "c", "a", "d")]:
            pairs = list(zip(cycle, cycle[1:] + cycle[:1]))
            for call in all_calls(world, {pair: True for pair in pairs}):
                self.assertRaises(BadPolicy, call)
            for pair in pairs:
                self.assertIsInstance(is_enough(world, {other: True for other in pairs if other != pair}), bool)

    def test_a_cycle_beside_other_entries(self):
        self.assertRaises(BadPolicy, is_enough, four(), {("d", "a"): True, ("a", "c"): True, ("c", "b"): True,
                                                         ("b", "a"): True})

    def test_every_policy_without_a_cycle_is_accepted(self):
        names = apart().names
        pairs = list(itertools.permutations(names, 2))
        accepted = 0
        for many in range(len(pairs) + 1):
            for chosen in itertools.combinations(pairs, many):
                policy = {pair: True for pair in chosen}
                if plain_orders(policy, names):
                    self.assertTrue(is_enough(apart(), policy))
                    accepted += 1
                else:
                    self.assertRaises(BadPolicy, is_enough, apart(), policy)
        self.assertEqual(accepted, 25)

    def test_wrong_sets(self):
        wrong = strangers(()) + [("count", "reset"), ("reset", "reset"), ("other",), ("reset", "other"), ["reset"],
                                 "reset", ("reset", True), ("reset", ["count"]), (("reset",),)]
        for names in wrong:
            self.assertRaises(BadOrder, next, orders(example(), {}, names))

    def test_policies_are_checked_before_what_follows(self):
        self.assertRaises(BadPolicy, next, orders(example(), None, None))
        self.assertRaises(BadPolicy, is_table, example(), None, None)
        self.assertRaises(BadPolicy, ends, example(), {("reset", "count"): 1})
        self.assertRaises(BadPolicy, trimmed, example(), {("reset", "count"): 1})

    def test_errors_of_the_generator_are_raised_with_the_first_order(self):
        for arguments, error in [((None, {}, ()), BadWorld), ((example(), None, ()), BadPolicy),
                                 ((example(), {}, None), BadOrder)]:
            waiting = orders(*arguments)
            self.assertRaises(error, next, waiting)

    def test_not_enough(self):
        self.assertRaises(NotEnough, ends, example(), {})
        self.assertRaises(NotEnough, trimmed, example(), {})


class Orders(unittest.TestCase):
    def test_all_orders_by_their_indices(self):
        self.assertEqual(list(orders(four(), {}, ("d", "a", "b"))), [
            ("d", "a", "b"), ("d", "b", "a"), ("a", "d", "b"), ("a", "b", "d"), ("b", "d", "a"), ("b", "a", "d")])
        self.assertEqual(list(orders(four(), {}, ("d", "a", "c", "b"))),
                         list(itertools.permutations(("d", "a", "c", "b"))))

    def test_the_empty_set_and_single_changes(self):
        self.assertEqual(list(orders(four(), {}, ())), [()])
        self.assertEqual(list(orders(four(), {("b", "d"): True}, ("d",))), [("d",)])

    def test_entries_forbid_orders(self):
        self.assertEqual(list(orders(four(), {("b", "d"): True}, ("d", "a", "b"))),
                         [("a", "b", "d"), ("b", "d", "a"), ("b", "a", "d")])

    def test_a_pair_counts_only_if_both_changes_occur(self):
        policy = {("b", "a"): True, ("a", "d"): True}
        self.assertEqual(list(orders(four(), policy, ("d", "b"))), [("d", "b"), ("b", "d")])
        self.assertEqual(list(orders(four(), policy, ("d", "a", "b"))), [("b", "a", "d")])

    def test_sample_policies(self):
        for world, policy in samples(60):
            for names in world.sets():
                self.assertEqual(list(orders(world, policy, names)), plain_orders(policy, names))

    def test_it_is_a_generator_of_tuples(self):
        self.assertTrue(inspect.isgenerator(orders(example(), {}, ())))
        self.assertIs(type(next(orders(example(), {}, ("reset",)))), tuple)

    def test_the_policy_is_not_kept(self):
        policy = {("d", "a"): True}
        running = orders(four(), policy, ("d", "a", "c"))
        found = [next(running)]
        policy.clear()
        policy[("c", "d")] = True
        found.extend(running)
        self.assertEqual(found, plain_orders({("d", "a"): True}, ("d", "a", "c")))

    def test_keywords(self):
        self.assertEqual(list(orders(names=("reset",), policy={}, world=example())), [("reset",)])


class Enough(unittest.TestCase):
    def test_a_pair_that_does_not_commute(self):
        self.assertIs(is_enough(example(), {}), False)
        self.assertIs(is_enough(example(), RESET_FIRST), True)
        self.assertIs(is_enough(example(), {("count", "reset"): True}), True)

    def test_changes_that_commute(self):
        self.assertIs(is_enough(apart(), {}), True)
        self.assertIsNone(first_split(apart(), {}))

    def test_only_the_initial_stores_count(self):
        changes = {"a": If(0, 3, Put(0, 0)), "b": Add.one(0)}
        self.assertTrue(is_enough(World(1, [(5,)], changes), {}))
        self.assertFalse(is_enough(World(1, [(5,), (2,)], changes), {}))

    def test_a_pair_that_commutes_only_without_another_change(self):
        changes = {"a": Add.one(0), "b": If(0, 5, Put(1, 1)), "c": Put(0, 4)}
        world = World(2, [(0, 0)], changes)
        self.assertEqual(first_split(world, {("a", "c"): True, ("b", "c"): True}), None)
        self.assertEqual(first_split(world, {("c", "a"): True, ("c", "b"): True}),
                         ((0, 0), ("c", "a", "b"), ("c", "b", "a")))

    def test_the_first_split_has_the_first_store(self):
        changes = {"a": If(0, 3, Put(0, 0)), "b": Add.one(0)}
        world = World(1, [(5,), (2,), (3,)], changes)
        self.assertEqual(first_split(world, {}), ((2,), ("a", "b"), ("b", "a")))
        world = World(1, [(5,), (3,), (2,)], changes)
        self.assertEqual(first_split(world, {}), ((3,), ("a", "b"), ("b", "a")))

    def test_the_first_split_has_the_first_set_and_orders(self):
        self.assertEqual(first_split(four(), {}), ((0,), ("d", "a"), ("a", "d")))
        self.assertEqual(first_split(four(), {("a", "d"): True}), ((0,), ("d", "c"), ("c", "d")))
        most = {pair: True for pair in [("d", "a"), ("d", "c"), ("d", "b"), ("a", "c"), ("a", "b")]}
        self.assertEqual(first_split(four(), most), ((0,), ("c", "b"), ("b", "c")))

    def test_the_second_order_is_the_first_that_differs(self):
        world = World(2, [(0, 0)], {"b": If(0, 5, Put(1, 1)), "a": Add.one(0), "c": Put(0, 4)})
        self.assertEqual(list(orders(world, {("c", "a"): True}, ("b", "a", "c"))),
                         [("b", "c", "a"), ("c", "b", "a"), ("c", "a", "b")])
        self.assertEqual(first_split(world, {("c", "a"): True}), ((0, 0), ("b", "c", "a"), ("c", "a", "b")))

    def test_sample_policies(self):
        enough = 0
        for world, policy in samples(150):
            split = plain_split(world, policy)
            self.assertEqual(first_split(world, policy), split)
            self.assertIs(is_enough(world, policy), split is None)
            enough += split is None
        self.assertTrue(30 < enough < 120, enough)

    def test_the_policy_is_not_modified(self):
        for world, policy in samples(10):
            before = list(policy.items())
            is_enough(world, policy)
            first_split(world, policy)
            self.assertEqual(list(policy.items()), before)


class Ends(unittest.TestCase):
    def test_all_ends_in_their_order(self):
        world = World(1, [(5,), (2,)], {"reset": Put(0, 0), "count": Add.one(0)})
        self.assertEqual(list(ends(world, RESET_FIRST).items()), [
            (((5,), ()), (5,)), (((5,), ("reset",)), (0,)), (((5,), ("count",)), (6,)),
            (((5,), ("reset", "count")), (1,)), (((2,), ()), (2,)), (((2,), ("reset",)), (0,)),
            (((2,), ("count",)), (3,)), (((2,), ("reset", "count")), (1,))])

    def test_sample_policies(self):
        for world, policy in samples(80):
            if plain_split(world, policy) is None:
                self.assertEqual(list(ends(world, policy).items()), list(plain_ends(world, policy).items()))
            else:
                self.assertRaises(NotEnough, ends, world, policy)

    def test_the_dict_is_new(self):
        world = example()
        ends(world, RESET_FIRST).clear()
        self.assertEqual(len(ends(world, RESET_FIRST)), 4)

    def test_the_example_of_the_interface(self):
        world = World(1, [(2,)], {'reset': Put(0, 0), 'count': Add.one(0)})
        found = [first_split(world, {}), ends(world, {('reset', 'count'): True})[((2,), ('reset', 'count'))]]
        self.assertEqual(found, [((2,), ('reset', 'count'), ('count', 'reset')), (1,)])


class Trimmed(unittest.TestCase):
    def test_needless_entries_are_removed(self):
        self.assertEqual(trimmed(apart(), {("b", "c"): True, ("c", "a"): True}), {})

    def test_needed_entries_remain(self):
        self.assertEqual(trimmed(example(), RESET_FIRST), RESET_FIRST)

    def test_entries_are_in_the_order_of_their_indices(self):
        pairs = [("b", "c"), ("b", "a"), ("b", "d"), ("c", "a"), ("c", "d"), ("a", "d")]
        remaining = trimmed(four(), {pair: True for pair in pairs})
        self.assertEqual(list(remaining), [("a", "d"), ("c", "d"), ("c", "a"), ("b", "d"), ("b", "a"), ("b", "c")])
        self.assertEqual(list(remaining.values()), [True] * 6)

    def test_sample_policies(self):
        removed = 0
        for world, policy in samples(150):
            before = list(policy.items())
            if plain_split(world, policy) is None:
                remaining = trimmed(world, policy)
                self.assertEqual(list(remaining.items()), list(plain_trimmed(world, policy).items()))
                removed += len(policy) - len(remaining)
            self.assertEqual(list(policy.items()), before)
        self.assertTrue(removed)

    def test_the_earlier_one_of_two_entries_goes_that_do_without_each_other(self):
        world = World(2, [(0, 0)], {"a": Add.one(0), "b": Add.one(0), "c": If(0, 2, Put(1, 1))})
        self.assertFalse(is_enough(world, {}))
        self.assertEqual(trimmed(world, {("c", "a"): True, ("c", "b"): True}), {("c", "b"): True})
        self.assertEqual(trimmed(world, {("c", "b"): True, ("c", "a"): True}), {("c", "b"): True})

    def test_the_dict_is_new(self):
        policy = dict(RESET_FIRST)
        trimmed(example(), policy).clear()
        self.assertEqual(policy, RESET_FIRST)


class Tables(unittest.TestCase):
    def test_the_ends_are_a_table(self):
        for world, policy in samples(80):
            if plain_split(world, policy) is None:
                table = plain_ends(world, policy)
                self.assertIs(is_table(world, policy, table), True)
                self.assertIs(is_table(world, policy, dict(reversed(list(table.items())))), True)

    def test_every_other_end_is_wrong(self):
        for world, policy in samples(12):
            if plain_split(world, policy) is None:
                table = plain_ends(world, policy)
                for key in table:
                    for value in range(8):
                        other = (value,) + table[key][1:]
                        self.assertIs(is_table(world, policy, {**table, key: other}), other == table[key])

    def test_no_dict_is_the_table_of_a_policy_with_a_split(self):
        keys = [((2,), names) for names in example().sets()]
        for values in itertools.product(range(4), repeat=4):
            table = {key: (value,) for key, value in zip(keys, values)}
            self.assertIs(is_table(example(), {}, table), False)
            wanted = plain_ends(example(), RESET_FIRST)
            self.assertIs(is_table(example(), RESET_FIRST, table), table == wanted)

    def test_wrong_keys_and_values(self):
        table = plain_ends(example(), RESET_FIRST)
        last = ((2,), ("reset", "count"))
        shorter = {key: table[key] for key in table if key != last}
        wrong = strangers() + [shorter, {**table, ((3,), ()): (3,)}, list(table.items()), list(table)]
        for key in [((2,), ("count", "reset")), ((3,), ("reset", "count")), ((2,), ("reset", "reset")),
                    ((2,), ("reset", "other")), ((2,), ("reset", True)), (2, ("reset", "count")), (2,), last + (0,),
                    ((2, 0), ("reset", "count")), ("2", ("reset", "count")), None, True, 0, "key", (), ((2,), "reset"),
                    ((2,), None), ((2,), frozenset(("reset", "count")))]:
            wrong.append({**shorter, key: (1,)})
        for value in strangers() + [(8,), (-1,), (True,), (1, 1), [1], 1, "1", ("1",)]:
            wrong.append({**shorter, last: value})
        for other in wrong:
            self.assertRaises(BadTable, is_table, example(), RESET_FIRST, other)

    def test_a_boolean_in_a_key_does_not_equal_a_number(self):
        world = World(1, [(1,)], {"reset": Put(0, 0), "count": Add.one(0)})
        table = ends(world, RESET_FIRST)
        self.assertIs(is_table(world, RESET_FIRST, table), True)
        for names in world.sets():
            odd = {key: table[key] for key in table if key[1] != names}
            odd[((True,), names)] = table[((1,), names)]
            self.assertEqual(odd, table)
            self.assertRaises(BadTable, is_table, world, RESET_FIRST, odd)

    def test_a_wrong_table_is_an_error_also_for_a_policy_with_a_split(self):
        self.assertRaises(BadTable, is_table, example(), {}, {})

    def test_the_table_is_not_modified(self):
        table = plain_ends(example(), RESET_FIRST)
        before = list(table.items())
        is_table(example(), RESET_FIRST, table)
        self.assertEqual(list(table.items()), before)


class Interface(unittest.TestCase):
    def test_the_functions_are_defined_in_this_file(self):
        for name in ("orders", "is_enough", "first_split", "ends", "trimmed", "is_table"):
            self.assertEqual(getattr(policies, name).__module__, "orderpairs.policies")


if __name__ == "__main__":
    unittest.main()
