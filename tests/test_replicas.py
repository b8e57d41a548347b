import inspect
import itertools
import random
import unittest

from orderpairs.changes import Add, Put, Raise
from orderpairs.errors import BadName, BadOrder, BadPolicy, BadReplica, BadStore, BadWorld
from orderpairs.replicas import Replica
from orderpairs.worlds import World
from tests.helping import samples, strangers
from tests.plain import plain_order, plain_work

RESET_FIRST = {("reset", "count"): True}


def example():
    return World(1, [(2,), (1,)], {"reset": Put(0, 0), "count": Add.one(0)})


def four():
    return World(1, [(0,)], {"d": Put(0, 0), "a": Add.one(0), "c": Put(0, 2), "b": Raise(0, 3)})


def state(replica):
    return replica.received, replica.order, replica.store, replica.work


def both(world, policy, start):
    """The two ways to make a replica that has received nothing."""
    return [lambda: Replica(world, policy, start), lambda: Replica.at(world, policy, start, ())]


class WrongArguments(unittest.TestCase):
    def test_wrong_worlds(self):
        for world in strangers() + [World, (1, [(2,)], {})]:
            for policy, start in itertools.product(({}, None), ((2,), None)):
                for call in both(world, policy, start):
                    with self.assertRaises(BadWorld) as caught:
                        call()
                    self.assertIsNone(caught.exception.part)

    def test_wrong_policies(self):
        wrong = strangers({}) + [{("reset", "count"): 1}, {("reset", "other"): True}, {("reset", "reset"): True},
                                 {("reset", "count"): True, ("count", "reset"): True}, [("reset", "count")]]
        for policy in wrong:
            for start in ((2,), None):
                for call in both(example(), policy, start):
                    self.assertRaises(BadPolicy, call)

    def test_wrong_starts(self):
        for start in strangers() + [(0,), (3,), (8,), (True,), (2, 0), [2], 2, "2", ("2",), ((2,),), (1, 2), [(2,)]]:
            for call in both(example(), RESET_FIRST, start):
                self.assertRaises(BadStore, call)

    def test_wrong_names_received(self):
        replica = Replica.at(example(), RESET_FIRST, (2,), ("count",))
        before = state(replica)
        for name in strangers() + ["other", "count", "Reset", "reset ", "rese", ("reset",), ["reset"], b"reset", 0]:
            self.assertRaises(BadName, replica.receive, name)
            self.assertEqual(state(replica), before)

    def test_no_change_is_received_twice(self):
        for world, policy in samples(20):
            replica = Replica(world, policy, world.stores[0])
            for name in world.names:
                replica.receive(name)
                before = state(replica)
                for other in replica.received:
                    self.assertRaises(BadName, replica.receive, other)
                self.assertEqual(state(replica), before)

    def test_wrong_arrivals(self):
        wrong = strangers(()) + [("other",), ("reset", "reset"), ("reset", "other"), ["reset"], "reset",
                                 {"reset": True}, ("reset", True), ("reset", ["count"]), (("reset",),),
                                 ("reset", "count", "reset")]
        for names in wrong:
            self.assertRaises(BadOrder, Replica.at, example(), RESET_FIRST, (2,), names)

    def test_the_arrival_is_checked_last(self):
        self.assertRaises(BadWorld, Replica.at, None, {}, (2,), None)
        self.assertRaises(BadPolicy, Replica.at, example(), None, (2,), None)
        self.assertRaises(BadStore, Replica.at, example(), {}, (3,), None)


class Receiving(unittest.TestCase):
    def test_the_example_of_the_interface(self):
        world = World(1, [(2,)], {'reset': Put(0, 0), 'count': Add.one(0)})
        replica = Replica(world, {('reset', 'count'): True}, (2,))
        found = [replica.receive('count'), replica.receive('reset'), replica.order, replica.received, replica.work]
        self.assertEqual(found, [(3,), (1,), ('reset', 'count'), ['count', 'reset'], 3])

    def test_a_new_replica(self):
        self.assertEqual(state(Replica(example(), RESET_FIRST, (1,))), ([], (), (1,), 0))

    def test_without_entries_the_order_is_that_of_the_arrival(self):
        replica = Replica(four(), {}, (0,))
        self.assertEqual([replica.receive(name) for name in ("b", "a", "d", "c")], [(3,), (4,), (0,), (2,)])
        self.assertEqual(state(replica), (["b", "a", "d", "c"], ("b", "a", "d", "c"), (2,), 4))

    def test_a_change_that_comes_first_moves_others_back(self):
        replica = Replica(four(), {("c", "a"): True}, (0,))
        for name, order, work in [("a", ("a",), 1), ("b", ("a", "b"), 2), ("c", ("b", "c", "a"), 5),
                                  ("d", ("b", "c", "a", "d"), 6)]:
            replica.receive(name)
            self.assertEqual((replica.order, replica.work), (order, work))

    def test_only_what_stands_behind_the_common_beginning_is_applied(self):
        replica = Replica(four(), {("c", "a"): True}, (0,))
        for name, order, work in [("d", ("d",), 1), ("a", ("d", "a"), 2), ("c", ("d", "c", "a"), 4),
                                  ("b", ("d", "c", "a", "b"), 5)]:
            replica.receive(name)
            self.assertEqual((replica.order, replica.work), (order, work))

    def test_only_entries_of_received_changes_count(self):
        policy = {("c", "a"): True, ("a", "d"): True}
        replica = Replica.at(four(), policy, (0,), ("d", "c"))
        self.assertEqual(replica.order, ("d", "c"))
        replica.receive("a")
        self.assertEqual((replica.order, replica.work), (("c", "a", "d"), 5))

    def test_every_arrival_of_sample_worlds(self):
        for world, policy in samples(40):
            for start, arrival in itertools.product(world.stores[:2], itertools.permutations(world.names)):
                replica = Replica(world, policy, start)
                for many in range(1, len(arrival) + 1):
                    order = plain_order(policy, arrival[:many])
                    end = world.end(start, order)
                    self.assertEqual(replica.receive(arrival[many - 1]), end)
                    self.assertEqual(state(replica), (list(arrival[:many]), order, end,
                                                      plain_work(policy, arrival[:many])))

    def test_the_kinds_of_the_properties(self):
        for names in [(), ("count",), ("count", "reset")]:
            replica = Replica.at(example(), RESET_FIRST, (2,), names)
            self.assertEqual([type(part) for part in state(replica)], [list, tuple, tuple, int])

    def test_the_list_of_the_names_is_new(self):
        replica = Replica.at(example(), RESET_FIRST, (2,), ("count",))
        replica.received.append("reset")
        replica.received.clear()
        self.assertEqual(replica.received, ["count"])
        self.assertEqual(replica.receive("reset"), (1,))

    def test_the_properties_cannot_be_assigned(self):
        replica = Replica(example(), {}, (2,))
        for name in ("received", "order", "store", "work"):
            self.assertRaises(AttributeError, setattr, replica, name, None)

    def test_the_policy_is_neither_modified_nor_kept(self):
        policy = dict(RESET_FIRST)
        replica = Replica(example(), policy, (2,))
        replica.receive("count")
        self.assertEqual(policy, RESET_FIRST)
        policy.clear()
        policy[("count", "reset")] = True
        self.assertEqual(replica.receive("reset"), (1,))
        self.assertEqual(replica.order, ("reset", "count"))
        self.assertEqual(policy, {("count", "reset"): True})

    def test_two_replicas_share_nothing(self):
        policy = dict(RESET_FIRST)
        one, other = Replica(example(), policy, (2,)), Replica(example(), policy, (2,))
        one.receive("count")
        self.assertEqual(state(other), ([], (), (2,), 0))


class At(unittest.TestCase):
    def test_it_has_received_the_names(self):
        replica = Replica.at(example(), RESET_FIRST, (2,), ("count", "reset"))
        self.assertIs(type(replica), Replica)
        self.assertEqual(state(replica), (["count", "reset"], ("reset", "count"), (1,), 3))

    def test_nothing_or_some_of_the_changes(self):
        self.assertEqual(state(Replica.at(example(), {}, (2,), ())), ([], (), (2,), 0))
        self.assertEqual(state(Replica.at(example(), {}, (2,), ("count",))), (["count"], ("count",), (3,), 1))

    def test_sample_arrivals(self):
        source = random.Random(5)
        for world, policy in samples(30):
            names = tuple(source.sample(world.names, source.randrange(len(world.names) + 1)))
            replica = Replica(world, policy, world.stores[-1])
            for name in names:
                replica.receive(name)
            self.assertEqual(state(Replica.at(world, policy, world.stores[-1], names)), state(replica))

    def test_keywords(self):
        replica = Replica.at(names=("count",), start=(2,), policy={}, world=example())
        self.assertEqual(replica.received, ["count"])
        replica = Replica(start=(2,), policy={}, world=example())
        self.assertEqual(replica.receive(name="count"), (3,))
        self.assertEqual(list(replica.lacking(other=replica)), [])
        self.assertEqual(replica.sync(other=replica), [])


class Syncing(unittest.TestCase):
    def strange_replicas(self):
        other_world = World(1, [(2,), (1,)], {"reset": Put(0, 0), "count": Add(0, 2)})
        turned = World(1, [(2,), (1,)], {"count": Add.one(0), "reset": Put(0, 0)})
        return strangers() + [Replica, example(), (example(), RESET_FIRST, (2,)),
                              Replica(other_world, RESET_FIRST, (2,)), Replica(turned, RESET_FIRST, (2,)),
                              Replica(example(), {}, (2,)), Replica(example(), {("count", "reset"): True}, (2,)),
                              Replica(example(), RESET_FIRST, (1,)),
                              Replica.at(example(), RESET_FIRST, (1,), ("reset", "count"))]

    def test_wrong_replicas(self):
        replica = Replica.at(example(), RESET_FIRST, (2,), ("count",))
        before = state(replica)
        for other in self.strange_replicas():
            self.assertRaises(BadReplica, next, replica.lacking(other))
            self.assertRaises(BadReplica, replica.sync, other)
            self.assertEqual(state(replica), before)

    def test_errors_are_raised_with_the_first_name(self):
        waiting = Replica(example(), {}, (2,)).lacking(None)
        self.assertTrue(inspect.isgenerator(waiting))
        self.assertRaises(BadReplica, next, waiting)

    def test_an_equal_world_policy_and_start_suffice(self):
        policy = {("c", "a"): True, ("a", "d"): True}
        one = Replica(four(), policy, (0,))
        other = Replica.at(four(), dict(reversed(list(policy.items()))), (0,), ("b",))
        self.assertEqual(one.sync(other), ["b"])

    def test_names_in_the_order_in_which_the_other_one_applies_them(self):
        policy = {("c", "a"): True}
        one = Replica.at(four(), policy, (0,), ("b",))
        other = Replica.at(four(), policy, (0,), ("a", "d", "c", "b"))
        self.assertEqual(other.order, ("d", "c", "a", "b"))
        self.assertEqual(list(one.lacking(other)), ["d", "c", "a"])
        self.assertEqual(list(other.lacking(one)), [])
        self.assertEqual(one.sync(other), ["d", "c", "a"])
        self.assertEqual(state(one), (["b", "d", "c", "a"], ("b", "d", "c", "a"), (3,), 4))
        self.assertEqual(other.received, ["a", "d", "c", "b"])

    def test_the_names_are_determined_when_the_first_one_is_requested(self):
        one, other = Replica(four(), {}, (0,)), Replica(four(), {}, (0,))
        waiting = one.lacking(other)
        other.receive("b")
        other.receive("a")
        one.receive("b")
        other.receive("c")
        self.assertEqual(next(waiting), "a")
        other.receive("d")
        one.receive("c")
        self.assertEqual(list(waiting), ["c"])

    def test_names_may_be_received_while_they_are_handed_out(self):
        one, other = Replica(four(), {}, (0,)), Replica.at(four(), {}, (0,), ("b", "a", "d"))
        for name in one.lacking(other):
            one.receive(name)
        self.assertEqual(one.received, ["b", "a", "d"])

    def test_a_replica_lacks_nothing_of_itself(self):
        replica = Replica.at(four(), {}, (0,), ("b", "a"))
        before = state(replica)
        self.assertEqual(list(replica.lacking(replica)), [])
        self.assertEqual(replica.sync(replica), [])
        self.assertEqual(state(replica), before)

    def test_the_returned_list_is_new(self):
        one, other = Replica(four(), {}, (0,)), Replica.at(four(), {}, (0,), ("b", "a"))
        names = one.sync(other)
        self.assertIs(type(names), list)
        names.clear()
        self.assertEqual(one.received, ["b", "a"])
        self.assertEqual(other.received, ["b", "a"])

    def test_sample_replicas_that_sync(self):
        source = random.Random(6)
        for world, policy in samples(80):
            start = source.choice(world.stores)
            parts = [tuple(source.sample(world.names, source.randrange(len(world.names) + 1))) for _ in range(2)]
            one, other = [Replica.at(world, policy, start, part) for part in parts]
            missing = [name for name in plain_order(policy, parts[1]) if name not in parts[0]]
            arrival = parts[0] + tuple(missing)
            self.assertEqual(one.sync(other), missing)
            order = plain_order(policy, arrival)
            self.assertEqual(state(one), (list(arrival), order, world.end(start, order), plain_work(policy, arrival)))
            self.assertEqual(other.received, list(parts[1]))
            self.assertEqual(other.sync(one), [name for name in order if name not in parts[1]])
            self.assertEqual(sorted(other.received), sorted(one.received))


if __name__ == "__main__":
    unittest.main()
