import itertools
import unittest

from helper import every_council, groups, members_in, table_of
from weighvote.councils import Council, weighted
from weighvote.turns import idle, needed, orders, swings

FACTORIALS = (1, 1, 2, 6, 24, 120)


def swings_of(members, table):
    carrying = set(table)
    without = [[g for g in groups(members) if k not in members_in(g)] for k in range(members)]
    return [len([g for g in without[k] if g not in carrying and g + 2 ** k in carrying]) for k in range(members)]


def turning_one(order, carrying):
    """The last of the first that carry together; None if nobody is, as none or not even all have to carry."""
    for many in range(len(order) + 1):
        if sum(2 ** k for k in order[:many]) in carrying:
            return order[many - 1] if many > 0 else None
    return None


def orders_of(members, table):
    carrying = set(table)
    turning = [turning_one(order, carrying) for order in itertools.permutations(range(members))]
    return [turning.count(k) for k in range(members)]


def needed_of(members, table):
    return [k for k in range(members) if all(k in members_in(g) for g in table)]


COUNCILS = [(members, council, table) for members in range(1, 6) for council, table in every_council(members)]


class Swings(unittest.TestCase):
    def test_against_all_groups(self):
        for members, council, table in COUNCILS:
            self.assertEqual(swings(council), swings_of(members, table))

    def test_by_hand(self):
        self.assertEqual(swings(Council(3, [3, 5])), [3, 1, 1])
        self.assertEqual(swings(Council(4, [3, 12])), [3, 3, 3, 3])
        self.assertEqual(swings(Council(5, [16, 3])), [4, 4, 0, 0, 12])
        self.assertEqual(swings(Council(1, [1])), [1])
        self.assertEqual(swings(weighted([1] * 5, 3)), [6] * 5)

    def test_no_group_and_nobody(self):
        for members in range(1, 6):
            for told in ([], [0]):
                self.assertEqual(swings(Council(members, told)), [0] * members)


class Orders(unittest.TestCase):
    def test_against_all_orders(self):
        for members, council, table in COUNCILS:
            self.assertEqual(orders(council), orders_of(members, table))

    def test_by_hand(self):
        self.assertEqual(orders(Council(3, [3, 5])), [4, 1, 1])
        self.assertEqual(orders(Council(4, [3, 12])), [6, 6, 6, 6])
        self.assertEqual(orders(Council(5, [16, 3])), [20, 20, 0, 0, 80])
        self.assertEqual(orders(Council(1, [1])), [1])
        self.assertEqual(orders(Council(5, [31])), [24] * 5)
        self.assertEqual(orders(Council(5, [4])), [0, 0, 120, 0, 0])

    def test_no_group_and_nobody(self):
        for members in range(1, 6):
            for told in ([], [0]):
                self.assertEqual(orders(Council(members, told)), [0] * members)

    def test_each_order_has_one_turning_member_where_all_carry_and_nobody_does_not(self):
        for members, council, table in COUNCILS:
            wanted = FACTORIALS[members] if 0 < len(table) < 2 ** members else 0
            self.assertEqual(sum(orders(council)), wanted)


class NeededAndIdle(unittest.TestCase):
    def test_needed_against_all_groups(self):
        for members, council, table in COUNCILS:
            self.assertEqual(needed(council), needed_of(members, table))

    def test_idle_against_all_groups(self):
        for members, council, table in COUNCILS:
            often = swings_of(members, table)
            self.assertEqual(idle(council), [k for k in range(members) if often[k] == 0])

    def test_by_hand(self):
        self.assertEqual((needed(Council(3, [3, 5])), idle(Council(3, [3, 5]))), ([0], []))
        self.assertEqual((needed(Council(4, [3, 12])), idle(Council(4, [3, 12]))), ([], []))
        self.assertEqual((needed(Council(5, [16, 3])), idle(Council(5, [16, 3]))), ([], [2, 3]))
        self.assertEqual((needed(Council(4, [5])), idle(Council(4, [5]))), ([0, 2], [1, 3]))
        self.assertEqual((needed(Council(1, [1])), idle(Council(1, [1]))), ([0], []))

    def test_not_even_all_together(self):
        for members in range(1, 6):
            self.assertEqual(needed(Council(members, [])), list(range(members)))
            self.assertEqual(idle(Council(members, [])), list(range(members)))

    def test_nobody_carries(self):
        for members in range(1, 6):
            self.assertEqual(needed(Council(members, [0])), [])
            self.assertEqual(idle(Council(members, [0])), list(range(members)))

    def test_all_together_alone(self):
        for members in range(1, 6):
            self.assertEqual(needed(Council(members, [2 ** members - 1])), list(range(members)))
            self.assertEqual(idle(Council(members, [2 ** members - 1])), [])


class Lists(unittest.TestCase):
    def test_lists_given_back_are_the_askers_own_and_the_council_stays(self):
        council = Council(4, [5])
        for ask, wanted in ((swings, [4, 0, 4, 0]), (orders, [12, 0, 12, 0]), (needed, [0, 2]), (idle, [1, 3])):
            given = ask(council)
            self.assertIsInstance(given, list)
            given.append(9)
            given[0] = 7
            self.assertEqual(ask(council), wanted)
            given.clear()
            self.assertEqual(ask(council), wanted)
            self.assertEqual((council.members, table_of(council)), (4, [5, 7, 13, 15]))


if __name__ == "__main__":
    unittest.main()
