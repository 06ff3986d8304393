"""Turns: how often each member turns a group or an order, and who is needed or idle."""

from weighvote.groups import everybody, groups_of, has, members_of, with_member


def swings(council):
    return [len(groups_turned(council, member)) for member in range(council.members)]


def orders(council):
    return [orders_turned(council, member) for member in range(council.members)]


def needed(council):
    everyone = everybody(council.members)
    # If any group without a member carries, all the others together do.
    return [member for member in range(council.members) if not council.carries(everyone - (1 << member))]


def idle(council):
    return [member for member in range(council.members) if len(groups_turned(council, member)) == 0]


def groups_turned(council, member):
    return [group for group in groups_of(council.members) if turns(council, member, group)]


def turns(council, member, group):
    if has(group, member) or council.carries(group):
        return False
    return council.carries(with_member(group, member))


# A member is the turning one of an order just where it turns the group of those ahead of it. These may stand in any
# order, and so may those behind it.
def orders_turned(council, member):
    found = 0
    for group in groups_turned(council, member):
        ahead = len(members_of(group))
        found = found + orders_of(ahead) * orders_of(council.members - 1 - ahead)
    return found


def orders_of(many):
    found = 1
    for number in range(1, many + 1):
        found = found * number
    return found
