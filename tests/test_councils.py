import unittest

from helper import every_council, greatest_of, groups, is_part, least_of, table_by_weights, table_of, tables
from weighvote.councils import Council, both, either, turned, weighted
from weighvote.errors import BadCouncil, BadGroup, BadWeights, Unlike

NO_NUMBERS = (True, False, None, "1", "", 1.0, [], [1], (1,), {})


class Carrying(unittest.TestCase):
    def test_every_council_by_its_least_groups_alone(self):
        for members in range(1, 6):
            for table in tables(members):
                council = Council(members, least_of(members, table))
                self.assertEqual(table_of(council), table)
                self.assertEqual(council.members, members)

    def test_counts_of_councils(self):
        self.assertEqual([len(tables(members)) for members in range(1, 6)], [3, 6, 20, 168, 7581])

    def test_any_groups_told_carry_with_all_that_have_their_members(self):
        for members in range(1, 6):
            for step in (1, 2, 3, 5, 7):
                for start in range(4):
                    told = groups(members)[start::step]
                    council = Council(members, told)
                    wanted = [g for g in groups(members) if any(is_part(t, g) for t in told)]
                    self.assertEqual(table_of(council), wanted)

    def test_order_and_repeats_do_not_matter(self):
        for told in ([3, 12], [12, 3], [12, 3, 12, 12, 3], [15, 3, 7, 12, 3]):
            council = Council(4, told)
            self.assertEqual(table_of(council), [3, 7, 11, 12, 13, 14, 15])
            self.assertEqual(council.least(), [3, 12])

    def test_carries_gives_a_truth(self):
        council = Council(2, [1])
        self.assertIs(council.carries(1), True)
        self.assertIs(council.carries(2), False)
        self.assertIs(Council(1, []).carries(0), False)
        self.assertIs(Council(1, [0]).carries(0), True)

    def test_no_groups_and_nobody(self):
        for members in range(1, 6):
            self.assertEqual(table_of(Council(members, [])), [])
            self.assertEqual(table_of(Council(members, [0])), groups(members))
            self.assertEqual(table_of(Council(members, [2 ** members - 1])), [2 ** members - 1])


class LeastAndGreatest(unittest.TestCase):
    def test_every_council(self):
        for members in range(1, 6):
            for council, table in every_council(members):
                self.assertEqual(council.least(), least_of(members, table))
                self.assertEqual(council.greatest(), greatest_of(members, table))

    def test_by_hand(self):
        council = Council(4, [12, 3])
        self.assertEqual(council.least(), [3, 12])
        self.assertEqual(council.greatest(), [5, 6, 9, 10])
        council = Council(5, [16, 3])
        self.assertEqual(council.least(), [3, 16])
        self.assertEqual(council.greatest(), [13, 14])

    def test_not_even_all_together(self):
        for members in range(1, 6):
            council = Council(members, [])
            self.assertEqual(council.least(), [])
            self.assertEqual(council.greatest(), [2 ** members - 1])

    def test_nobody_carries(self):
        for members in range(1, 6):
            council = Council(members, [2 ** members - 1, 0])
            self.assertEqual(council.least(), [0])
            self.assertEqual(council.greatest(), [])

    def test_one_member(self):
        council = Council(1, [1])
        self.assertEqual(council.least(), [1])
        self.assertEqual(council.greatest(), [0])


class Lists(unittest.TestCase):
    def test_groups_handed_in_stay_and_may_be_changed_behind(self):
        told = [12, 3, 12]
        council = Council(4, told)
        council.least()
        council.greatest()
        council.carries(5)
        self.assertEqual(told, [12, 3, 12])
        told.append(0)
        told[0] = 1
        self.assertEqual(council.least(), [3, 12])
        told.clear()
        self.assertEqual(council.least(), [3, 12])
        self.assertIs(council.carries(12), True)

    def test_lists_given_back_are_the_askers_own(self):
        council = Council(4, [3, 12])
        for ask, wanted in ((council.least, [3, 12]), (council.greatest, [5, 6, 9, 10])):
            given = ask()
            given.append(0)
            given[0] = 15
            self.assertEqual(ask(), wanted)
            given.clear()
            self.assertEqual(ask(), wanted)
        self.assertEqual(table_of(council), [3, 7, 11, 12, 13, 14, 15])

    def test_weights_handed_in_stay_and_may_be_changed_behind(self):
        weights = [2, 1, 1]
        council = weighted(weights, 3)
        self.assertEqual(weights, [2, 1, 1])
        weights[0] = 0
        weights.append(9)
        self.assertEqual(council.members, 3)
        self.assertEqual(council.least(), [3, 5])


class Derived(unittest.TestCase):
    def test_turned_every_council(self):
        for members in range(1, 6):
            everyone = 2 ** members - 1
            for council, table in every_council(members):
                turn = turned(council)
                wanted = [g for g in groups(members) if everyone - g not in table]
                self.assertEqual(table_of(turn), wanted)
                self.assertEqual(turn.members, members)
                self.assertEqual(turn.least(), least_of(members, wanted))
                self.assertEqual(table_of(turned(turn)), table)
                self.assertEqual(table_of(council), table)

    def test_turned_by_hand(self):
        self.assertEqual(turned(Council(3, [])).least(), [0])
        self.assertEqual(turned(Council(3, [0])).least(), [])
        self.assertEqual(turned(Council(3, [7])).least(), [1, 2, 4])
        self.assertEqual(turned(Council(4, [3, 12])).least(), [5, 6, 9, 10])

    def check_pair(self, members, one, other):
        (one_council, one_table), (other_council, other_table) = one, other
        shared = sorted(set(one_table) & set(other_table))
        joined = sorted(set(one_table) | set(other_table))
        for made, wanted in ((both(one_council, other_council), shared), (either(one_council, other_council), joined)):
            self.assertIsInstance(made, Council)
            self.assertEqual(made.members, members)
            self.assertEqual(table_of(made), wanted)
            self.assertEqual(made.least(), least_of(members, wanted))
            self.assertEqual(made.greatest(), greatest_of(members, wanted))
        self.assertEqual(table_of(one_council), one_table)
        self.assertEqual(table_of(other_council), other_table)

    def test_both_and_either_of_all_pairs_of_up_to_three_members(self):
        for members in range(1, 4):
            made = every_council(members)
            for one in made:
                for other in made:
                    self.check_pair(members, one, other)

    def test_both_and_either_of_many_pairs_of_four_and_five(self):
        for members, step in ((4, 11), (5, 353)):
            made = every_council(members)
            for one in made[::step]:
                for other in made[5::step]:
                    self.check_pair(members, one, other)

    def test_both_and_either_of_one_and_itself(self):
        for council, table in every_council(4):
            self.assertEqual(table_of(both(council, council)), table)
            self.assertEqual(table_of(either(council, council)), table)

    def test_unlike(self):
        for one in range(1, 6):
            for other in range(1, 6):
                pair = (Council(one, [1]), Council(other, [1]))
                if one == other:
                    self.assertEqual(both(*pair).least(), [1])
                    self.assertEqual(either(*pair).least(), [1])
                else:
                    self.assertRaises(Unlike, both, *pair)
                    self.assertRaises(Unlike, either, *pair)

    def test_unlike_also_where_no_group_or_nobody_carries(self):
        for told in ([], [0]):
            self.assertRaises(Unlike, both, Council(2, told), Council(3, told))
            self.assertRaises(Unlike, either, Council(3, told), Council(2, told))


class Weighted(unittest.TestCase):
    def test_many_weights(self):
        for weights in ([1], [0], [3, 1], [2, 1, 1], [0, 0, 0], [5, 4, 3, 2, 1], [1, 1, 1, 1], [0, 7, 0, 7, 1]):
            for quota in range(sum(weights) + 3):
                council = weighted(weights, quota)
                self.assertEqual(council.members, len(weights))
                self.assertEqual(table_of(council), table_by_weights(weights, quota))

    def test_by_hand(self):
        self.assertEqual(weighted([2, 1, 1], 3).least(), [3, 5])
        self.assertEqual(weighted([1, 2, 4, 8, 16], 16).least(), [16])
        self.assertEqual(weighted([1, 2, 4, 8, 16], 16).greatest(), [15])

    def test_the_quota_alone_is_enough(self):
        self.assertIs(weighted([3, 2], 5).carries(3), True)
        self.assertIs(weighted([3, 2], 6).carries(3), False)

    def test_at_the_bounds(self):
        most = [1000000] * 5
        self.assertEqual(table_of(weighted(most, 0)), groups(5))
        self.assertEqual(table_of(weighted(most, 5000000)), [31])
        self.assertEqual(table_of(weighted(most, 5000001)), [])
        self.assertEqual(weighted(most, 4000001).least(), [31])
        self.assertEqual(table_of(weighted([0] * 5, 0)), groups(5))
        self.assertEqual(table_of(weighted([0] * 5, 1)), [])
        self.assertEqual(table_of(weighted([1000000], 1000000)), [1])
        self.assertEqual(table_of(weighted([0], 5000001)), [])


class Refusals(unittest.TestCase):
    def test_bad_counts_of_members(self):
        for members in (0, 6, -1, 7, 100) + NO_NUMBERS:
            for told in ([], [0], [1]):
                self.assertRaises(BadCouncil, Council, members, told)

    def test_good_counts_of_members(self):
        for members in range(1, 6):
            self.assertEqual(Council(members, []).members, members)

    def test_bad_groups_of_a_new_council(self):
        for members in range(1, 6):
            for wrong in (-1, 2 ** members, 2 ** members + 1, 32, 64) + NO_NUMBERS:
                for told in ([wrong], [0, wrong], [wrong, 1], [1, 1, wrong]):
                    self.assertRaises(BadCouncil, Council, members, told)

    def test_good_groups_at_the_bounds(self):
        for members in range(1, 6):
            top = 2 ** members - 1
            self.assertEqual(Council(members, [top]).least(), [top])
            self.assertEqual(Council(members, [0]).least(), [0])

    def test_groups_that_are_no_list(self):
        for wrong in (None, 3, True, "1", (1,), {1: 1}):
            self.assertRaises(BadCouncil, Council, 2, wrong)

    def test_bad_groups_asked(self):
        for members in range(1, 6):
            for told in ([], [0], [1]):
                council = Council(members, told)
                for wrong in (-1, -2 ** members, 2 ** members, 2 ** members + 1, 32) + NO_NUMBERS:
                    self.assertRaises(BadGroup, council.carries, wrong)
                self.assertIs(council.carries(0), 0 in told)
                self.assertIs(council.carries(2 ** members - 1), told != [])

    def test_bad_weights(self):
        for wrong in (-1, 1000001) + NO_NUMBERS:
            for weights in ([wrong], [1, wrong], [wrong, 1], [1, 1, 1, 1, wrong]):
                self.assertRaises(BadWeights, weighted, weights, 1)

    def test_bad_counts_of_weights(self):
        for weights in ([], [1] * 6, [0] * 7):
            self.assertRaises(BadWeights, weighted, weights, 1)

    def test_weights_that_are_no_list(self):
        for wrong in (None, 3, True, "1", (1, 1), {1: 1}):
            self.assertRaises(BadWeights, weighted, wrong, 1)

    def test_bad_quotas(self):
        for weights in ([1], [1000000] * 5):
            for wrong in (-1, 5000002) + NO_NUMBERS:
                self.assertRaises(BadWeights, weighted, weights, wrong)


if __name__ == "__main__":
    unittest.main()
