import itertools
import random
import unittest

from orderpairs.agreeing import Agreement, agreement, policy_cost
from orderpairs.changes import Add, If, Lower, Put, Raise
from orderpairs.errors import BadCosts, BadPolicy, BadWorld
from orderpairs.policies import ends
from orderpairs.worlds import World
from tests.helping import sample_world, samples, strangers
from tests.plain import (enough_policies, is_plain_doubt, least_forbidding, plain_cheapest, plain_cost, plain_ends,
                         plain_shows)

COSTS = {("reset", "count"): 4, ("count", "reset"): 3}


def example():
    return World(1, [(2,)], {"reset": Put(0, 0), "count": Add.one(0)})


def four():
    """A world in which each two changes must be put in order."""
    return World(1, [(0,), (5,)], {"d": Put(0, 0), "a": Put(0, 1), "c": Put(0, 2), "b": Put(0, 3)})


def apart():
    """A world whose changes commute, each in its own slot."""
    return World(3, [(0, 0, 0), (7, 7, 7)], {"c": Add.one(0), "a": Raise(1, 3), "b": Lower(2, 3)})


def joint():
    """A world in which c must come before a or before b, whichever it is."""
    return World(2, [(0, 0)], {"a": Add.one(0), "b": Add.one(0), "c": If(0, 2, Put(1, 1))})


def even_costs(world, cost=1):
    return {pair: cost for pair in itertools.permutations(world.names, 2)}


def sample_costs(source, world):
    """Costs with many ties, with some, or all alike."""
    least, most = source.choice([(0, 1), (0, 2), (1, 2), (0, 9), (5, 5), (0, 0)])
    pairs = list(itertools.permutations(world.names, 2))
    source.shuffle(pairs)
    return {pair: source.randint(least, most) for pair in pairs}


def sample_questions(many, seed=7):
    """Sample worlds with two, three and four changes in turn, with costs."""
    source = random.Random(seed)
    wanted = 0
    while wanted < many:
        world = sample_world(source)
        if len(world.names) == 2 + wanted % 3:
            yield world, sample_costs(source, world)
            wanted += 1


def changed_answers(source, world, found):
    """Answers with one part changed, each as policy, table and doubts."""
    policy, table, doubts = found.policy, found.table, found.doubts
    for other in source.sample(list(enough_policies(world)), 1):
        yield other, plain_ends(world, other), doubts
        yield other, table, doubts
    for entry in policy:
        yield {pair: True for pair in policy if pair != entry}, table, doubts
    key = source.choice(list(table))
    yield policy, {**table, key: ((table[key][0] + 1) % 8,) + table[key][1:]}, doubts
    for place in range(len(doubts)):
        yield policy, table, doubts[:place] + doubts[place + 1:]
    names = list(source.choice(list(world.sets())))
    mixed = [tuple(source.sample(names, len(names))) for _ in range(2)]
    yield policy, table, doubts + [(source.choice(world.stores), mixed[0], mixed[1])]


def every_doubt(world, least):
    """All pairs of orders of at least so many changes that end differently, with the store."""
    for store, names in itertools.product(world.stores, world.sets()):
        for one, other in itertools.combinations(itertools.permutations(names), 2):
            if len(names) >= least and world.end(store, one) != world.end(store, other):
                yield store, one, other


def later():
    """A world in which a and b commute at first, but not behind c."""
    return World(2, [(0, 0)], {"a": Add.one(0), "b": If(0, 5, Put(1, 1)), "c": Put(0, 4)})


class WrongArguments(unittest.TestCase):
    def calls(self, world, costs):
        found = agreement(example(), COSTS)
        return [lambda: policy_cost(world, {}, costs), lambda: agreement(world, costs),
                lambda: found.shows(world, costs)]

    def test_wrong_worlds(self):
        for world in strangers() + [World, (1, [(2,)], {})]:
            for costs in (COSTS, None):
                for call in self.calls(world, costs):
                    with self.assertRaises(BadWorld) as caught:
                        call()
                    self.assertIsNone(caught.exception.part)

    def test_wrong_costs(self):
        one, other = ("reset", "count"), ("count", "reset")
        wrong = strangers() + [
            {one: 4}, {other: 3}, {**COSTS, ("reset", "reset"): 1}, {**COSTS, "reset": 1}, {**COSTS, None: 1},
            {one: 4, ("reset", "reset"): 1}, {one: 4, ("reset", "other"): 1}, {one: 4, ("other", "count"): 1},
            {one: 4, ("reset", True): 1}, {one: 4, (1, 0): 1}, {one: 4, "rc": 1}, {one: 4, True: 1}, {one: 4, 1: 1},
            {one: 4, ("count",): 1}, {one: 4, other + other: 1}, {one: 4, ("count", "reset", "count"): 1},
            {one: 4, (("count",), "reset"): 1}, {one: 4, frozenset(other): 1}, {one: 4, (): 1}, [(one, 4), (other, 3)],
            [one, other], (one, other), {one, other}, "costs",
        ]
        wrong += [{one: 4, other: cost} for cost in strangers() + [-1, 10, 11, 100, "3", (3,), [3]]]
        for costs in wrong:
            for call in self.calls(example(), costs):
                self.assertRaises(BadCosts, call)

    def test_costs_of_another_number_of_names(self):
        world = joint()
        costs = even_costs(world)
        for pair in costs:
            fewer = {other: 1 for other in costs if other != pair}
            self.assertRaises(BadCosts, agreement, world, fewer)
            self.assertRaises(BadCosts, agreement, world, {**fewer, ("a", "d"): 1})
        self.assertRaises(BadCosts, agreement, example(), costs)
        self.assertRaises(BadCosts, agreement, world, COSTS)

    def test_the_edges_are_accepted(self):
        for least, most in itertools.product((0, 9), repeat=2):
            costs = {("reset", "count"): least, ("count", "reset"): most}
            self.assertEqual(policy_cost(example(), {("reset", "count"): True}, costs), least)
            self.assertTrue(agreement(example(), costs).shows(example(), costs))

    def test_wrong_policies(self):
        wrong = strangers({}) + [{("reset", "count"): 1}, {("reset", "other"): True}, {("reset", "reset"): True},
                                 {("reset", "count"): True, ("count", "reset"): True}, [("reset", "count")]]
        for policy in wrong:
            for costs in (COSTS, None):
                self.assertRaises(BadPolicy, policy_cost, example(), policy, costs)

    def test_the_world_is_checked_before_the_policy(self):
        self.assertRaises(BadWorld, policy_cost, None, None, None)


class Costs(unittest.TestCase):
    def test_the_sum_of_the_entries(self):
        world = joint()
        costs = {("a", "b"): 1, ("b", "a"): 2, ("a", "c"): 3, ("c", "a"): 4, ("b", "c"): 5, ("c", "b"): 9}
        self.assertEqual(policy_cost(world, {}, costs), 0)
        self.assertEqual(policy_cost(world, {("c", "b"): True}, costs), 9)
        self.assertEqual(policy_cost(world, {("c", "b"): True, ("b", "a"): True, ("c", "a"): True}, costs), 15)

    def test_a_policy_need_not_be_enough(self):
        self.assertEqual(policy_cost(example(), {}, COSTS), 0)

    def test_keywords(self):
        self.assertEqual(policy_cost(costs=COSTS, policy={("count", "reset"): True}, world=example()), 3)

    def test_sample_policies(self):
        source = random.Random(3)
        for world, policy in samples(40):
            costs = sample_costs(source, world)
            before = list(policy.items()), list(costs.items())
            self.assertEqual(policy_cost(world, policy, costs), plain_cost(policy, costs))
            self.assertEqual((list(policy.items()), list(costs.items())), before)


class Cheapest(unittest.TestCase):
    def test_the_example_of_the_interface(self):
        world = World(1, [(2,)], {'reset': Put(0, 0), 'count': Add.one(0)})
        found = agreement(world, {('reset', 'count'): 4, ('count', 'reset'): 3})
        answers = [found.policy, found.table[((2,), ('reset', 'count'))],
                   found.shows(world, {('reset', 'count'): 4, ('count', 'reset'): 3})]
        self.assertEqual(answers, [{('count', 'reset'): True}, (0,), True])

    def test_nothing_is_put_in_order_that_commutes(self):
        found = agreement(apart(), even_costs(apart(), 0))
        self.assertEqual(found.policy, {})
        self.assertEqual(found.doubts, [])

    def test_of_equal_costs_the_first_change_first(self):
        self.assertEqual(agreement(example(), even_costs(example())).policy, {("reset", "count"): True})
        self.assertEqual(agreement(example(), even_costs(example(), 0)).policy, {("reset", "count"): True})

    def test_of_equal_costs_no_entry_for_the_earlier_pair(self):
        self.assertEqual(agreement(joint(), even_costs(joint())).policy, {("c", "b"): True})

    def test_entries_without_cost_are_not_taken_along(self):
        world = joint()
        costs = {**even_costs(world, 0), ("b", "c"): 1, ("c", "b"): 1}
        self.assertEqual(agreement(world, costs).policy, {("c", "a"): True})

    def test_entries_are_in_the_order_of_the_pairs_of_indices(self):
        world = four()
        costs = even_costs(world, 9)
        entries = [("a", "d"), ("c", "d"), ("d", "b"), ("c", "a"), ("a", "b"), ("c", "b")]
        costs.update({entry: 1 for entry in entries})
        found = agreement(world, costs)
        self.assertEqual(list(found.policy.items()), [(entry, True) for entry in entries])
        self.assertEqual(list(found.table.items()), list(ends(world, found.policy).items()))

    def test_a_cycle_of_cheap_entries_is_no_policy(self):
        world = World(1, [(0,)], {"a": Put(0, 1), "b": Put(0, 2), "c": Put(0, 3)})
        costs = {("a", "b"): 0, ("b", "c"): 0, ("c", "a"): 0, ("b", "a"): 7, ("c", "b"): 5, ("a", "c"): 6}
        found = agreement(world, costs)
        self.assertEqual(list(found.policy), [("a", "b"), ("c", "a"), ("c", "b")])
        self.assertTrue(found.shows(world, costs))

    def test_a_try_of_all_policies(self):
        counts = {2: 0, 3: 0, 4: 0}
        for world, costs in sample_questions(75):
            wanted = plain_cheapest(world, costs)
            found = agreement(world, costs)
            self.assertEqual(list(found.policy.items()), list(wanted.items()))
            self.assertEqual(list(found.table.items()), list(plain_ends(world, wanted).items()))
            counts[len(world.names)] += bool(wanted)
        self.assertTrue(all(many > 5 for many in counts.values()), counts)

    def test_the_doubts_refute_every_cheaper_policy(self):
        doubted = 0
        for world, costs in list(sample_questions(60)) + [(four(), even_costs(four())), (joint(), even_costs(joint()))]:
            found = agreement(world, costs)
            cost = plain_cost(found.policy, costs)
            self.assertIs(type(found.doubts), list)
            for doubt in found.doubts:
                self.assertIs(type(doubt), tuple)
                self.assertTrue(is_plain_doubt(world, doubt))
            self.assertGreaterEqual(least_forbidding(world, costs, found.doubts), cost)
            doubted += cost > 0
        self.assertGreater(doubted, 20)

    def test_the_kinds_of_the_parts(self):
        found = agreement(example(), COSTS)
        self.assertIs(type(found), Agreement)
        self.assertIs(type(found.policy), dict)
        self.assertIs(type(found.table), dict)
        self.assertEqual(found.doubts, [((2,), ("reset", "count"), ("count", "reset"))])

    def test_keywords(self):
        self.assertEqual(agreement(costs=COSTS, world=example()), agreement(example(), COSTS))

    def test_the_costs_are_neither_modified_nor_kept(self):
        costs = dict(COSTS)
        found = agreement(example(), costs)
        self.assertEqual(list(costs.items()), list(COSTS.items()))
        costs.clear()
        self.assertEqual(found, agreement(example(), COSTS))

    def test_each_answer_is_new(self):
        found = agreement(example(), COSTS)
        found.policy.clear()
        found.table.clear()
        found.doubts.clear()
        again = agreement(example(), COSTS)
        self.assertEqual([len(again.policy), len(again.table), len(again.doubts)], [1, 4, 1])


class Answers(unittest.TestCase):
    def parts(self):
        found = agreement(example(), COSTS)
        return found.policy, found.table, found.doubts

    def test_the_attributes(self):
        policy, table, doubts = self.parts()
        made = Agreement(doubts=doubts, table=table, policy=policy)
        self.assertEqual((made.policy, made.table, made.doubts), (policy, table, doubts))

    def test_the_parts_are_copied(self):
        policy, table, doubts = self.parts()
        made = Agreement(policy, table, doubts)
        policy.clear()
        table.clear()
        doubts.clear()
        self.assertEqual(made, agreement(example(), COSTS))
        made.doubts.append("more")
        made.policy["more"] = True
        made.table["more"] = True
        self.assertEqual((policy, table, doubts), ({}, {}, []))

    def test_equal_answers(self):
        policy, table, doubts = self.parts()
        self.assertTrue(Agreement(policy, table, doubts) == Agreement(policy, table, doubts))
        backwards = dict(reversed(list(table.items())))
        self.assertTrue(Agreement(policy, table, doubts) == Agreement(policy, backwards, list(doubts)))

    def test_different_answers(self):
        policy, table, doubts = self.parts()
        made = Agreement(policy, table, doubts)
        for other in [Agreement({}, table, doubts), Agreement(policy, {}, doubts), Agreement(policy, table, []),
                      Agreement(policy, table, doubts * 2), (policy, table, doubts), None, policy]:
            self.assertFalse(made == other)
            self.assertTrue(made != other)


class Shows(unittest.TestCase):
    def setUp(self):
        self.world = example()
        self.found = agreement(self.world, COSTS)
        self.doubt = ((2,), ("reset", "count"), ("count", "reset"))

    def shows(self, policy=None, table=None, doubts=None):
        made = Agreement(self.found.policy if policy is None else policy, self.found.table if table is None else table,
                         self.found.doubts if doubts is None else doubts)
        return made.shows(self.world, COSTS)

    def test_it_returns_booleans(self):
        self.assertIs(self.shows(), True)
        self.assertIs(self.shows(table={**self.found.table, ((2,), ()): (3,)}), False)
        self.assertIs(self.shows(doubts=[]), False)
        self.assertIs(self.shows(doubts=[((3,), ("reset", "count"), ("count", "reset"))]), False)

    def test_every_other_end_is_wrong(self):
        for key, value in itertools.product(self.found.table, range(8)):
            wanted = self.found.table[key] == (value,)
            self.assertIs(self.shows(table={**self.found.table, key: (value,)}), wanted)

    def test_a_policy_that_is_not_enough(self):
        for table in (self.found.table, ends(self.world, {("reset", "count"): True})):
            self.assertIs(self.shows(policy={}, table=table), False)

    def test_a_policy_that_costs_more(self):
        policy = {("reset", "count"): True}
        self.assertIs(self.shows(policy=policy, table=ends(self.world, policy)), False)
        self.assertIs(self.found.shows(self.world, {("reset", "count"): 2, ("count", "reset"): 3}), False)
        self.assertIs(self.found.shows(self.world, {("reset", "count"): 3, ("count", "reset"): 3}), True)

    def test_the_policy_need_not_be_the_first_one(self):
        policy = {("reset", "count"): True}
        made = Agreement(policy, ends(self.world, policy), [self.doubt])
        self.assertIs(made.shows(self.world, {("reset", "count"): 3, ("count", "reset"): 3}), True)
        self.assertIs(made.shows(self.world, {("reset", "count"): 4, ("count", "reset"): 3}), False)

    def test_needless_entries_without_cost_do_not_matter(self):
        world = apart()
        policy = {("b", "c"): True}
        made = Agreement(policy, ends(world, policy), [])
        self.assertIs(made.shows(world, even_costs(world, 0)), True)
        self.assertIs(made.shows(world, even_costs(world, 1)), False)

    def test_dicts_may_be_in_any_order(self):
        world = four()
        found = agreement(world, even_costs(world))
        made = Agreement(dict(reversed(list(found.policy.items()))), dict(reversed(list(found.table.items()))),
                         found.doubts[::-1])
        self.assertIs(made.shows(world, even_costs(world)), True)

    def test_each_doubt_must_be_one(self):
        start, one, other = self.doubt
        wrong = [((3,), one, other), ((2, 0), one, other), ((8,), one, other), (start, one, one), (start, (), ()),
                 (start, one, ("count",)), (start, ("reset",), ("count",)), (start, (), ("count",)),
                 (start, ("reset", "odd"), ("odd", "reset")), (start, ("reset", "reset"), ("count", "count"))]
        for doubt in wrong:
            self.assertIs(self.shows(doubts=[self.doubt, doubt]), False)
            self.assertIs(self.shows(doubts=[doubt, self.doubt]), False)
            self.assertIs(self.shows(doubts=[doubt]), False)

    def test_doubts_may_be_more_than_needed(self):
        start, one, other = self.doubt
        self.assertIs(self.shows(doubts=[self.doubt, self.doubt, (start, other, one)]), True)

    def test_no_doubt_is_needed_without_cost(self):
        costs = even_costs(self.world, 0)
        made = Agreement(self.found.policy, self.found.table, [])
        self.assertIs(made.shows(self.world, costs), True)

    def test_policies_with_a_cycle_do_not_count(self):
        # Without the third pair of orders only a cycle forbids enough for less.
        world = World(1, [(0,)], {"a": Put(0, 1), "b": Put(0, 2), "c": Put(0, 3)})
        costs = {("a", "b"): 0, ("b", "c"): 0, ("c", "a"): 0, ("b", "a"): 7, ("c", "b"): 5, ("a", "c"): 6}
        policy = {("a", "b"): True, ("c", "a"): True, ("c", "b"): True}
        doubts = [((0,), pair, pair[::-1]) for pair in (("a", "b"), ("a", "c"), ("b", "c"))]
        self.assertIs(Agreement(policy, ends(world, policy), doubts).shows(world, costs), True)
        self.assertIs(Agreement(policy, ends(world, policy), doubts[:2]).shows(world, costs), False)

    def test_an_order_may_be_allowed_by_entries_between_its_changes(self):
        world = later()
        costs = {("c", "a"): 0, ("c", "b"): 0, ("a", "b"): 5, ("b", "a"): 5, ("a", "c"): 9, ("b", "c"): 9}
        found = agreement(world, costs)
        self.assertEqual(found.policy, {("a", "b"): True, ("c", "a"): True})
        self.assertIs(found.shows(world, costs), True)
        doubts = [((0, 0), ("c", "a", "b"), ("c", "b", "a")), ((0, 0), ("a", "c"), ("c", "a"))]
        self.assertIs(Agreement(found.policy, found.table, doubts).shows(world, costs), True)
        self.assertIs(Agreement(found.policy, found.table, doubts[:1]).shows(world, costs), True)
        self.assertIs(Agreement(found.policy, found.table, doubts[1:]).shows(world, costs), False)

    def test_sample_answers_with_other_doubts(self):
        source = random.Random(13)
        counts = {True: 0, False: 0}
        for world, costs in sample_questions(60, 14):
            found = agreement(world, costs)
            for least in (2, 3):
                choices = list(every_doubt(world, least))
                for many in (1, 3, 9):
                    doubts = source.sample(choices, min(many, len(choices)))
                    wanted = least_forbidding(world, costs, doubts) >= plain_cost(found.policy, costs)
                    self.assertIs(Agreement(found.policy, found.table, doubts).shows(world, costs), wanted)
                    counts[wanted] += 1
        self.assertTrue(counts[True] > 20 and counts[False] > 20, counts)

    def test_the_current_attributes_count(self):
        self.found.doubts.clear()
        self.assertIs(self.found.shows(self.world, COSTS), False)
        self.found.doubts = [self.doubt]
        self.assertIs(self.found.shows(self.world, COSTS), True)
        self.found.table[((2,), ())] = (3,)
        self.assertIs(self.found.shows(self.world, COSTS), False)
        self.found.policy = {("reset", "count"): True}
        self.found.table = ends(self.world, self.found.policy)
        self.assertIs(self.found.shows(self.world, COSTS), False)
        self.assertIs(self.found.shows(self.world, even_costs(self.world)), True)

    def test_nothing_is_modified(self):
        before = [list(self.found.policy.items()), list(self.found.table.items()), list(self.found.doubts)]
        costs = dict(COSTS)
        self.found.shows(world=self.world, costs=costs)
        self.assertEqual([list(self.found.policy.items()), list(self.found.table.items()), self.found.doubts], before)
        self.assertEqual(list(costs.items()), list(COSTS.items()))

    def test_sample_answers_with_a_part_changed(self):
        source = random.Random(11)
        counts = {True: 0, False: 0}
        for world, costs in sample_questions(30, 12):
            found = agreement(world, costs)
            self.assertIs(found.shows(world, costs), True)
            for policy, table, doubts in changed_answers(source, world, found):
                wanted = plain_shows(world, costs, policy, table, doubts)
                self.assertIs(Agreement(policy, table, doubts).shows(world, costs), wanted)
                counts[wanted] += 1
        self.assertTrue(counts[True] > 20 and counts[False] > 20, counts)


if __name__ == "__main__":
    unittest.main()
