import inspect
import itertools
import unittest

from orderpairs.changes import Add, Put
from orderpairs.errors import BadOrder, BadPolicy, BadWorld
from orderpairs.working import hardest, work_of, works
from orderpairs.worlds import World
from tests.helping import samples, strangers
from tests.plain import plain_work

RESET_FIRST = {("reset", "count"): True}


def example():
    return World(1, [(2,)], {"reset": Put(0, 0), "count": Add.one(0)})


def three():
    return World(1, [(0,)], {"c": Put(0, 0), "a": Put(0, 1), "b": Put(0, 2)})


def all_calls(world, policy):
    return [lambda: work_of(world, policy, ()), lambda: hardest(world, policy), lambda: next(works(world, policy))]


class WrongArguments(unittest.TestCase):
    def test_wrong_worlds(self):
        for world in strangers() + [World, (1, [(2,)], {})]:
            for policy in ({}, None):
                for call in all_calls(world, policy):
                    with self.assertRaises(BadWorld) as caught:
                        call()
                    self.assertIsNone(caught.exception.part)

    def test_wrong_policies(self):
        wrong = strangers({}) + [{("reset", "count"): 1}, {("reset", "other"): True}, {("reset", "reset"): True},
                                 {("reset", "count"): True, ("count", "reset"): True}, [("reset", "count")]]
        for policy in wrong:
            for call in all_calls(example(), policy):
                self.assertRaises(BadPolicy, call)

    def test_wrong_arrivals(self):
        wrong = strangers(()) + [("other",), ("reset", "reset"), ("reset", "other"), ["reset"], "reset",
                                 {"reset": True}, ("reset", True), ("reset", ["count"]), (("reset",),),
                                 ("reset", "count", "reset")]
        for names in wrong:
            self.assertRaises(BadOrder, work_of, example(), RESET_FIRST, names)

    def test_the_arrival_is_checked_last(self):
        self.assertRaises(BadWorld, work_of, None, None, None)
        self.assertRaises(BadPolicy, work_of, example(), None, None)

    def test_errors_of_the_generator_are_raised_with_the_first_pair(self):
        for arguments, error in [((None, {}), BadWorld), ((example(), None), BadPolicy)]:
            waiting = works(*arguments)
            self.assertTrue(inspect.isgenerator(waiting))
            self.assertRaises(error, next, waiting)


class Work(unittest.TestCase):
    def test_the_example_of_the_interface(self):
        world = World(1, [(2,)], {'reset': Put(0, 0), 'count': Add.one(0)})
        found = [hardest(world, {('reset', 'count'): True}), work_of(world, {}, ('count', 'reset'))]
        self.assertEqual(found, [(('count', 'reset'), 3), 2])

    def test_any_arrival(self):
        policy = {("b", "c"): True, ("a", "c"): True}
        self.assertEqual([work_of(three(), policy, names) for names in
                          [(), ("c",), ("c", "b"), ("b", "c"), ("c", "b", "a"), ("a", "c", "b")]], [0, 1, 3, 2, 5, 4])

    def test_without_entries_each_change_is_applied_once(self):
        for arrival, work in works(three(), {}):
            self.assertEqual(work, 3)
            self.assertEqual(work_of(three(), {}, arrival), 3)

    def test_all_arrivals_by_their_indices(self):
        policy = {("b", "c"): True, ("a", "c"): True}
        self.assertEqual(list(works(three(), policy)), [
            (("c", "a", "b"), 5), (("c", "b", "a"), 5), (("a", "c", "b"), 4), (("a", "b", "c"), 3),
            (("b", "c", "a"), 4), (("b", "a", "c"), 3)])

    def test_the_first_one_of_the_hardest(self):
        self.assertEqual(hardest(three(), {("b", "c"): True, ("a", "c"): True}), (("c", "a", "b"), 5))
        self.assertEqual(hardest(three(), {}), (("c", "a", "b"), 3))
        self.assertEqual(hardest(three(), {("c", "b"): True}), (("b", "a", "c"), 5))

    def test_the_kinds_of_the_answers(self):
        for pair in [hardest(example(), RESET_FIRST), next(works(example(), RESET_FIRST))]:
            self.assertEqual([type(pair), type(pair[0]), type(pair[1])], [tuple, tuple, int])

    def test_sample_policies(self):
        for world, policy in samples(60):
            before = list(policy.items())
            wanted = [(arrival, plain_work(policy, arrival)) for arrival in itertools.permutations(world.names)]
            self.assertEqual(list(works(world, policy)), wanted)
            self.assertEqual(hardest(world, policy), max(wanted, key=lambda pair: pair[1]))
            for names in world.sets():
                for arrival in itertools.permutations(names):
                    self.assertEqual(work_of(world, policy, arrival), plain_work(policy, arrival))
            self.assertEqual(list(policy.items()), before)

    def test_the_policy_is_not_kept(self):
        policy = {("b", "c"): True, ("a", "c"): True}
        wanted = list(works(three(), policy))
        running = works(three(), policy)
        found = [next(running)]
        policy.clear()
        self.assertEqual(found + list(running), wanted)

    def test_keywords(self):
        self.assertEqual(work_of(names=("count", "reset"), policy=RESET_FIRST, world=example()), 3)
        self.assertEqual(hardest(policy={}, world=example()), (("reset", "count"), 2))
        self.assertEqual(list(works(policy={}, world=example())),
                         [(("reset", "count"), 2), (("count", "reset"), 2)])


if __name__ == "__main__":
    unittest.main()
