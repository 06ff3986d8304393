"""Telling a council: weights and a quota that make it, or a trade, which shows that there are none."""

from weighvote.groups import groups_of, has, is_group, weight_of, within

# No council of up to five members that weights make needs a greater weight than this.
ENOUGH_WEIGHT = 5


class Answer:
    # An answer that tells nothing is so of no council.
    def holds(self, council):
        return False


class Weights(Answer):
    def __init__(self, weights, quota):
        self.weights = list(weights)
        self.quota = quota

    def holds(self, council):
        if len(self.weights) != council.members:
            return False
        return all([self.agrees(council, group) for group in groups_of(council.members)])

    def agrees(self, council, group):
        return council.carries(group) == (weight_of(self.weights, group) >= self.quota)


class Trade(Answer):
    def __init__(self, carry, fail):
        self.carry = list(carry)
        self.fail = list(fail)

    def holds(self, council):
        if len(self.carry) != len(self.fail) or len(self.carry) == 0:
            return False
        # Of a smaller council such a group is none, and carries would refuse it.
        if not all([is_group(group, council.members) for group in self.carry + self.fail]):
            return False
        if not all([council.carries(group) for group in self.carry]):
            return False
        if any([council.carries(group) for group in self.fail]):
            return False
        return all([how_often(self.carry, member) <= how_often(self.fail, member) for member in range(council.members)])


def how_often(groups, member):
    return len([group for group in groups if has(group, member)])


def telling(council):
    trade = trade_of(council)
    if trade is not None:
        return trade
    return weights_of(council)


# With up to five members there is a trade of two groups against two wherever there is any. Least and greatest
# groups are enough for it: a trade stays one when a group that carries loses members and still carries, or one
# that fails wins members and still fails.
def trade_of(council):
    fails = pairs(council.greatest())
    for carry in pairs(council.least()):
        for fail in fails:
            if outdoes(fail, carry):
                return Trade(carry, fail)
    return None


def pairs(groups):
    found = []
    for place, one in enumerate(groups):
        for other in groups[place + 1:]:
            found.append([one, other])
    return found


# A member is in one of two groups at least if it is in their union, in two if it is in what they share.
def outdoes(fail, carry):
    return within(carry[0] | carry[1], fail[0] | fail[1]) and within(carry[0] & carry[1], fail[0] & fail[1])


# Where weights make a council, some do that fall in the order of strength: a heavier member is at least as strong,
# and of two that are as strong either may have the other one's weight.
def weights_of(council):
    order = by_strength(council)
    least = council.least()
    greatest = council.greatest()
    for falling in falling_lists(council.members, ENOUGH_WEIGHT):
        weights = placed(falling, order)
        quota = min([weight_of(weights, group) for group in least], default=sum(weights) + 1)
        if all([weight_of(weights, group) < quota for group in greatest]):
            return Weights(weights, quota)
    return None


def by_strength(council):
    return sorted(range(council.members), key=lambda member: strength(council, member), reverse=True)


def strength(council, member):
    return len([group for group in groups_of(council.members) if has(group, member) and council.carries(group)])


def falling_lists(length, most):
    if length == 0:
        return [[]]
    found = []
    for first in range(most + 1):
        for rest in falling_lists(length - 1, first):
            found.append([first] + rest)
    return found


def placed(falling, order):
    weights = [0] * len(order)
    for place, member in enumerate(order):
        weights[member] = falling[place]
    return weights
