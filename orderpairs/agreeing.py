"""The cheapest policy under which all replicas end alike, and the evidence that it is one."""

from orderpairs.changes import is_number
from orderpairs.errors import BadCosts
from orderpairs.policies import check_policy, ends, find_split, has_cycle, is_pair, is_table
from orderpairs.worlds import check_world, is_order, is_start

MOST_COST = 9


class Agreement:
    """A policy, its table of ends, and the doubts that refute every cheaper policy."""

    def __init__(self, policy, table, doubts):
        self.policy = {pair: policy[pair] for pair in policy}
        self.table = {key: table[key] for key in table}
        self.doubts = list(doubts)

    def __eq__(self, other):
        return (isinstance(other, Agreement) and self.policy == other.policy and self.table == other.table
                and self.doubts == other.doubts)

    def shows(self, world, costs):
        check_world(world)
        check_costs(world, costs)
        # Only a policy that is enough has a table, so that enough need not be asked separately.
        if not is_table(world, self.policy, self.table):
            return False
        if not all([is_doubt(world, doubt) for doubt in self.doubts]):
            return False
        cost = cost_of(self.policy, costs)
        cheaper = [policy for policy in all_policies(world.names) if cost_of(policy, costs) < cost]
        return all([is_refuted(policy, self.doubts) for policy in cheaper])


def policy_cost(world, policy, costs):
    check_world(world)
    check_policy(world, policy)
    check_costs(world, costs)
    return cost_of(policy, costs)


def agreement(world, costs):
    check_world(world)
    check_costs(world, costs)
    doubts = []
    # The loop ends early: a policy that puts all changes into one order has no split.
    for policy in sorted(all_policies(world.names), key=lambda choice: cost_of(choice, costs)):
        # A policy that allows both orders of a doubt has a split, so that none need be searched.
        if not is_refuted(policy, doubts):
            split = find_split(world, policy)
            if split is None:
                return Agreement(policy, ends(world, policy), doubts)
            doubts.append(split)


def check_costs(world, costs):
    many = len(world.names)
    if not isinstance(costs, dict) or len(costs) != many * (many - 1):
        raise BadCosts("not a dict with as many keys as there are ordered pairs of different names")
    for pair, cost in costs.items():
        if not is_pair(world, pair) or not is_number(cost, 0, MOST_COST):
            raise BadCosts("not an entry from a pair of different names to an integer from 0 to 9")


def cost_of(policy, costs):
    return sum([costs[pair] for pair in policy])


def all_policies(names):
    """The list of all policies over the names, in the order in which policies of equal cost are compared."""
    choices = [{pair: True for pair in pairs} for pairs in lists_of_pairs(names)]
    return [policy for policy in choices if not has_cycle(policy, names)]


def lists_of_pairs(names):
    """Of each two names neither pair, the one or the other, in every combination."""
    found = [[]]
    for place, one in enumerate(names):
        for other in names[place + 1:]:
            found = [pairs + more for pairs in found for more in ([], [(one, other)], [(other, one)])]
    return found


def is_refuted(policy, doubts):
    """Whether the policy allows both orders of one of the doubts."""
    return any([is_allowed(policy, one) and is_allowed(policy, other) for start, one, other in doubts])


def is_allowed(policy, order):
    behind = [(other, name) for place, name in enumerate(order) for other in order[place + 1:]]
    return not any([pair in policy for pair in behind])


def is_doubt(world, doubt):
    """Whether these are an initial store and two orders of the same changes that end differently from it."""
    start, one, other = doubt
    if not is_start(world, start) or not is_order(world, one) or not is_order(world, other):
        return False
    return sorted(one) == sorted(other) and world.end(start, one) != world.end(start, other)
