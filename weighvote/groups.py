"""Groups as whole numbers: what counts as one, which there are, who is in them and what they weigh."""

MOST_MEMBERS = 5


def is_whole(value, most):
    # True and False pass for whole numbers in Python, but are none here.
    return isinstance(value, int) and not isinstance(value, bool) and 0 <= value <= most


def everybody(members):
    return (1 << members) - 1


def is_member(value, members):
    return is_whole(value, members - 1)


def is_group(value, members):
    return is_whole(value, everybody(members))


def groups_of(members):
    return list(range(1 << members))


def has(group, member):
    return (group >> member) & 1 == 1


def members_of(group):
    return [member for member in range(MOST_MEMBERS) if has(group, member)]


def with_member(group, member):
    return group | (1 << member)


def within(small, large):
    return small & large == small


def weight_of(weights, group):
    return sum([weight for member, weight in enumerate(weights) if has(group, member)])
