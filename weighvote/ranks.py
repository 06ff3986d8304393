"""Ranks: which member may stand for which, and either ranks of all members or two members that show there are none."""

from weighvote.errors import NoMember
from weighvote.groups import groups_of, has, is_group, is_member, with_member
from weighvote.tellings import Answer


class Ranks(Answer):
    def __init__(self, ranks):
        self.ranks = [list(rank) for rank in ranks]

    def holds(self, council):
        if any([len(rank) == 0 for rank in self.ranks]):
            return False
        if not is_each_once(self.ranks, council.members):
            return False
        for one in range(council.members):
            for other in range(council.members):
                # A member is to stand for those in its own rank and in later ones, and for nobody else.
                if stands(council, one, other) != (self.place_of(one) <= self.place_of(other)):
                    return False
        return True

    def place_of(self, member):
        return [place for place, rank in enumerate(self.ranks) if member in rank][0]


class Unranked(Answer):
    def __init__(self, one, other, first, second):
        self.one = one
        self.other = other
        self.first = first
        self.second = second

    def holds(self, council):
        # Of a smaller council such members and groups are none, and carries would refuse them.
        if not all([is_member(member, council.members) for member in [self.one, self.other]]):
            return False
        if not all([is_group(group, council.members) for group in [self.first, self.second]]):
            return False
        if not tells_apart(council, self.first, self.one, self.other):
            return False
        return tells_apart(council, self.second, self.other, self.one)


def is_each_once(ranks, members):
    told = []
    for rank in ranks:
        told.extend(rank)
    # True and False would pass for 1 and 0 in the comparison alone.
    return all([is_member(member, members) for member in told]) and sorted(told) == list(range(members))


# A group without both that carries with the one and not with the other.
def tells_apart(council, group, one, other):
    if has(group, one) or has(group, other):
        return False
    return council.carries(with_member(group, one)) and not council.carries(with_member(group, other))


def groups_apart(council, one, other):
    return [group for group in groups_of(council.members) if tells_apart(council, group, one, other)]


def stands(council, one, other):
    refuse_no_member(council, one)
    refuse_no_member(council, other)
    return len(groups_apart(council, other, one)) == 0


def refuse_no_member(council, member):
    if not is_member(member, council.members):
        raise NoMember("no member of this council")


def ranked(council):
    unranked = unranked_of(council)
    if unranked is not None:
        return unranked
    return Ranks(ranks_of(council))


def unranked_of(council):
    for other in range(council.members):
        for one in range(other):
            first = groups_apart(council, one, other)
            second = groups_apart(council, other, one)
            if len(first) > 0 and len(second) > 0:
                return Unranked(one, other, first[0], second[0])
    return None


# Standing for one another goes on from member to member. So where of any two one may stand for the other, all of
# one rank may stand for equally many, and those of an earlier rank for more.
def ranks_of(council):
    members = list(range(council.members))
    reach = [stands_for_how_many(council, member) for member in members]
    ranks = []
    for many in reversed(sorted(set(reach))):
        ranks.append([member for member in members if reach[member] == many])
    return ranks


def stands_for_how_many(council, member):
    return len([other for other in range(council.members) if stands(council, member, other)])
