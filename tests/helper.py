"""Councils and what is so of them, reckoned anew for the tests from the document's words alone."""

from weighvote.councils import Council


def groups(members):
    return list(range(2 ** members))


def members_in(group):
    return [k for k in range(12) if group // 2 ** k % 2 == 1]


def is_part(small, large):
    return set(members_in(small)) <= set(members_in(large))


def tables(members):
    """For each council of so many members the list of the groups that carry."""
    found = [[], [0]]
    for k in range(members):
        # Without member k some groups carry; with it those and perhaps more do.
        found = [low + [group + 2 ** k for group in high] for low in found for high in found if set(low) <= set(high)]
    return [sorted(table) for table in found]


def least_of(members, table):
    carrying = set(table)
    return [g for g in groups(members) if g in carrying
            and not any(g - 2 ** k in carrying for k in members_in(g))]


def greatest_of(members, table):
    carrying = set(table)
    others = {g: [k for k in range(members) if k not in members_in(g)] for g in groups(members)}
    return [g for g in groups(members) if g not in carrying
            and all(g + 2 ** k in carrying for k in others[g])]


def table_of(council):
    return [g for g in groups(council.members) if council.carries(g)]


def table_by_weights(weights, quota):
    return [g for g in groups(len(weights)) if sum(weights[k] for k in members_in(g)) >= quota]


def weights_are_so(weights, quota, members, table):
    return len(weights) == members and table_by_weights(weights, quota) == table


def trade_is_so(carry, fail, members, table):
    carrying = set(table)
    if not carry or len(carry) != len(fail):
        return False
    if any(g not in carrying for g in carry) or any(g in carrying for g in fail):
        return False
    carry_count = [sum(k in members_in(g) for g in carry) for k in range(members)]
    fail_count = [sum(k in members_in(g) for g in fail) for k in range(members)]
    return all(c <= f for c, f in zip(carry_count, fail_count))


def may_stand(one, other, members, table):
    carrying = set(table)
    for g in groups(members):
        if one not in members_in(g) and other not in members_in(g):
            if g + 2 ** other in carrying and g + 2 ** one not in carrying:
                return False
    return True


def ranks_are_so(ranks, members, table):
    if [] in ranks or sorted(sum(ranks, [])) != list(range(members)):
        return False
    own_and_later = [(a, b) for place, rank in enumerate(ranks) for a in rank for b in sum(ranks[place:], [])]
    earlier = [(a, b) for place, rank in enumerate(ranks) for a in rank for b in sum(ranks[:place], [])]
    return (all(may_stand(a, b, members, table) for a, b in own_and_later)
            and not any(may_stand(a, b, members, table) for a, b in earlier))


def unranked_is_so(one, other, first, second, table):
    carrying = set(table)
    if any(k in members_in(g) for k in (one, other) for g in (first, second)):
        return False
    return (first + 2 ** one in carrying and first + 2 ** other not in carrying
            and second + 2 ** other in carrying and second + 2 ** one not in carrying)


def text_of(members, table):
    words = ["".join(str(k) for k in members_in(g)) if g > 0 else "-" for g in least_of(members, table)]
    return " ".join([str(members) + ":"] + words)


def every_council(members):
    return [(Council(members, table), table) for table in tables(members)]
