"""Councils: which groups carry, the least and the greatest groups, and councils made of others or of weights."""

from weighvote.errors import BadCouncil, BadGroup, BadWeights, Unlike
from weighvote.groups import MOST_MEMBERS, everybody, groups_of, has, is_group, is_whole, members_of
from weighvote.groups import weight_of, with_member, within

MOST_WEIGHT = 1000000
MOST_QUOTA = 5000001


class Council:
    def __init__(self, members, groups):
        refuse_bad_council(members, groups)
        self.members = members
        # One truth for each group, so that nothing of the list handed in is kept.
        self.table = tuple([has_one_within(groups, group) for group in groups_of(members)])

    def carries(self, group):
        if not is_group(group, self.members):
            raise BadGroup("no group of this council")
        return self.table[group]

    def least(self):
        return [group for group in groups_of(self.members) if self.is_least(group)]

    def greatest(self):
        return [group for group in groups_of(self.members) if self.is_greatest(group)]

    def is_least(self, group):
        smaller = [group - (1 << member) for member in members_of(group)]
        return self.carries(group) and not any([self.carries(one) for one in smaller])

    def is_greatest(self, group):
        larger = [with_member(group, member) for member in range(self.members) if not has(group, member)]
        return not self.carries(group) and all([self.carries(one) for one in larger])


def refuse_bad_council(members, groups):
    if not is_whole(members, MOST_MEMBERS) or members == 0:
        raise BadCouncil("a council has 1 to 5 members")
    if not isinstance(groups, list):
        raise BadCouncil("the groups are to be a list")
    if not all([is_group(group, members) for group in groups]):
        raise BadCouncil("no group of so many members")


def has_one_within(groups, group):
    return any([within(told, group) for told in groups])


def turned(council):
    everyone = everybody(council.members)
    carrying = [group for group in groups_of(council.members) if not council.carries(everyone - group)]
    return Council(council.members, carrying)


def both(one, other):
    refuse_unlike(one, other)
    carrying = [group for group in groups_of(one.members) if one.carries(group) and other.carries(group)]
    return Council(one.members, carrying)


def either(one, other):
    refuse_unlike(one, other)
    carrying = [group for group in groups_of(one.members) if one.carries(group) or other.carries(group)]
    return Council(one.members, carrying)


def refuse_unlike(one, other):
    if one.members != other.members:
        raise Unlike("the councils have unlike counts of members")


def weighted(weights, quota):
    refuse_bad_weights(weights, quota)
    members = len(weights)
    carrying = [group for group in groups_of(members) if weight_of(weights, group) >= quota]
    return Council(members, carrying)


def refuse_bad_weights(weights, quota):
    if not isinstance(weights, list) or not 1 <= len(weights) <= MOST_MEMBERS:
        raise BadWeights("the weights are to be a list of 1 to 5")
    if not all([is_whole(weight, MOST_WEIGHT) for weight in weights]):
        raise BadWeights("a weight is a whole number from 0 to 1000000")
    if not is_whole(quota, MOST_QUOTA):
        raise BadWeights("a quota is a whole number from 0 to 5000001")
