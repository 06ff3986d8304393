import itertools
import unittest

from helper import every_council, groups, may_stand, ranks_are_so, table_of, unranked_is_so
from weighvote.councils import Council, weighted
from weighvote.errors import NoMember
from weighvote.ranks import Ranks, Unranked, ranked, stands
from weighvote.tellings import Answer

NO_MEMBERS = (-1, 100, True, False, None, "0", "", 0.0, 1.0, [], [0], (0,), {})


def all_ranks(members):
    """All ways to put the members into ranks, each member in one and each rank rising."""
    if members == 0:
        return [[]]
    found = []
    for ranks in all_ranks(members - 1):
        for place in range(len(ranks) + 1):
            found.append(ranks[:place] + [[members - 1]] + ranks[place:])
        for place in range(len(ranks)):
            found.append(ranks[:place] + [ranks[place] + [members - 1]] + ranks[place + 1:])
    return found


class Stands(unittest.TestCase):
    def test_every_pair_of_members(self):
        for members, step in ((1, 1), (2, 1), (3, 1), (4, 1), (5, 7)):
            for council, table in every_council(members)[::step]:
                for one in range(members):
                    for other in range(members):
                        self.assertIs(stands(council, one, other), may_stand(one, other, members, table))

    def test_for_itself(self):
        for members in range(1, 6):
            for told in ([], [0], [1], [2 ** members - 1]):
                for member in range(members):
                    self.assertIs(stands(Council(members, told), member, member), True)

    def test_no_group_and_nobody(self):
        for members in range(1, 6):
            for told in ([], [0]):
                for one in range(members):
                    for other in range(members):
                        self.assertIs(stands(Council(members, told), one, other), True)

    def test_by_hand(self):
        council = Council(3, [3, 5])
        self.assertIs(stands(council, 0, 1), True)
        self.assertIs(stands(council, 1, 0), False)
        self.assertIs(stands(council, 1, 2), True)
        self.assertIs(stands(council, 2, 1), True)
        council = Council(4, [3, 12])
        self.assertIs(stands(council, 0, 1), True)
        self.assertIs(stands(council, 0, 2), False)
        self.assertIs(stands(council, 2, 0), False)

    def test_no_member(self):
        for members in range(1, 6):
            for told in ([], [0], [1]):
                council = Council(members, told)
                for wrong in (members, members + 1) + NO_MEMBERS:
                    self.assertRaises(NoMember, stands, council, wrong, 0)
                    self.assertRaises(NoMember, stands, council, 0, wrong)
                    self.assertRaises(NoMember, stands, council, wrong, wrong)
                self.assertIs(stands(council, members - 1, members - 1), True)

    def test_the_council_stays(self):
        council = Council(4, [12, 3])
        stands(council, 0, 2)
        self.assertEqual((council.members, table_of(council)), (4, [3, 7, 11, 12, 13, 14, 15]))


class Ranked(unittest.TestCase):
    def check(self, members, council, table):
        answer = ranked(council)
        self.assertIn(answer.__class__, (Ranks, Unranked))
        if isinstance(answer, Ranks):
            self.assertTrue(ranks_are_so(answer.ranks, members, table))
            self.assertEqual(answer.ranks, [sorted(rank) for rank in answer.ranks])
        else:
            self.assertTrue(unranked_is_so(answer.one, answer.other, answer.first, answer.second, table))
            self.assertTrue(all(0 <= k < members for k in (answer.one, answer.other)))
            self.assertTrue(all(g in groups(members) for g in (answer.first, answer.second)))
        self.assertIs(answer.holds(council), True)
        self.assertEqual(table_of(council), table)
        return answer

    def test_every_council(self):
        for members, with_ranks in ((1, 3), (2, 6), (3, 20), (4, 150), (5, 3287)):
            answers = [self.check(members, council, table) for council, table in every_council(members)]
            self.assertEqual(len([a for a in answers if isinstance(a, Ranks)]), with_ranks)

    def test_by_hand(self):
        self.assertEqual(ranked(Council(3, [3, 5])).ranks, [[0], [1, 2]])
        self.assertEqual(ranked(Council(3, [6, 5])).ranks, [[2], [0, 1]])
        self.assertEqual(ranked(Council(5, [16, 3])).ranks, [[4], [0, 1], [2, 3]])
        self.assertEqual(ranked(weighted([1, 5, 2, 4, 3], 9)).ranks, [[1], [3], [4], [2], [0]])
        self.assertIsInstance(ranked(Council(4, [3, 12])), Unranked)
        self.assertIsInstance(ranked(Council(5, [3, 12])), Unranked)

    def test_no_group_and_nobody_and_all(self):
        for members in range(1, 6):
            for told in ([], [0], [2 ** members - 1]):
                self.assertEqual(ranked(Council(members, told)).ranks, [list(range(members))])

    def test_never_both(self):
        for members in range(1, 4):
            for council, table in every_council(members):
                with_ranks = any(Ranks(ranks).holds(council) for ranks in all_ranks(members))
                shown = any(Unranked(*fields).holds(council) for fields in
                            itertools.product(range(members), range(members), groups(members), groups(members)))
                self.assertNotEqual(with_ranks, shown)
                self.assertEqual(isinstance(ranked(council), Ranks), with_ranks)

    def test_never_both_with_four(self):
        answers = [(council, ranked(council)) for council, table in every_council(4)]
        shows = [answer for council, answer in answers if isinstance(answer, Unranked)]
        for council, answer in answers:
            if isinstance(answer, Ranks):
                self.assertFalse(any(show.holds(council) for show in shows))

    def test_each_answer_is_the_askers_own(self):
        council = Council(3, [3, 5])
        answer = ranked(council)
        answer.ranks[1].append(0)
        answer.ranks.pop(0)
        self.assertIs(answer.holds(council), False)
        self.assertEqual(ranked(council).ranks, [[0], [1, 2]])


class Kinds(unittest.TestCase):
    def test_straight_under_answer(self):
        self.assertEqual(Ranks.__bases__, (Answer,))
        self.assertEqual(Unranked.__bases__, (Answer,))

    def test_fields(self):
        self.assertEqual(Ranks([[2, 0], [1]]).ranks, [[2, 0], [1]])
        answer = Unranked(0, 2, 8, 1)
        self.assertEqual((answer.one, answer.other, answer.first, answer.second), (0, 2, 8, 1))

    def test_lists_are_copied_at_every_depth(self):
        told = [[0], [1, 2]]
        answer = Ranks(told)
        told[1].append(0)
        told[0].clear()
        told.append([3])
        self.assertEqual(answer.ranks, [[0], [1, 2]])
        self.assertIs(answer.holds(Council(3, [3, 5])), True)
        told = [[0], [1, 2]]
        answer = Ranks(told)
        answer.ranks[0].append(5)
        answer.ranks.append([])
        self.assertEqual(told, [[0], [1, 2]])

    def test_one_list_for_two_ranks(self):
        shared = [0]
        answer = Ranks([shared, shared])
        answer.ranks[0].append(1)
        self.assertEqual(answer.ranks, [[0, 1], [0]])

    def test_asking_changes_no_field(self):
        answer = Ranks([[0], [2, 1]])
        answer.holds(Council(3, [3, 5]))
        answer.holds(Council(3, [7]))
        self.assertEqual(answer.ranks, [[0], [2, 1]])
        answer = Unranked(2, 0, 8, 2)
        answer.holds(Council(4, [3, 12]))
        self.assertEqual((answer.one, answer.other, answer.first, answer.second), (2, 0, 8, 2))


class RanksHold(unittest.TestCase):
    def test_all_ranks_of_all_councils_of_up_to_three(self):
        for members, ways in ((1, 1), (2, 3), (3, 13)):
            self.assertEqual(len(all_ranks(members)), ways)
            for council, table in every_council(members):
                for ranks in all_ranks(members):
                    self.assertIs(Ranks(ranks).holds(council), ranks_are_so(ranks, members, table))

    def test_all_ranks_of_councils_of_four_and_some_of_five(self):
        for members, step in ((4, 5), (5, 499)):
            for council, table in every_council(members)[::step]:
                for ranks in all_ranks(members):
                    self.assertIs(Ranks(ranks).holds(council), ranks_are_so(ranks, members, table))

    def near(self, ranks, members):
        found = [ranks[::-1], [], [[]], [[]] + ranks, ranks + [[]], ranks[:1] + [[]] + ranks[1:], ranks + ranks[:1]]
        found.extend([ranks[1:], ranks[:-1], [sum(ranks, [])], [[k] for k in sum(ranks, [])]])
        found.append([rank[::-1] for rank in ranks])
        for place, rank in enumerate(ranks):
            for k in range(members):
                found.append(ranks[:place] + [rank + [k]] + ranks[place + 1:])
                found.append(ranks[:place] + [[other for other in rank if other != k]] + ranks[place + 1:])
                moved = [[other for other in row if other != k] for row in ranks]
                found.append([row for row in moved[:place] + [moved[place] + [k]] + moved[place + 1:] if row])
        return found

    def test_near_ones_of_many_councils(self):
        for members, step in ((1, 1), (2, 1), (3, 1), (4, 3), (5, 97)):
            for council, table in every_council(members)[::step]:
                answer = ranked(council)
                if isinstance(answer, Ranks):
                    for ranks in self.near(answer.ranks, members):
                        self.assertIs(Ranks(ranks).holds(council), ranks_are_so(ranks, members, table), ranks)

    def test_by_hand(self):
        council = Council(3, [3, 5])
        self.assertIs(Ranks([[0], [1, 2]]).holds(council), True)
        self.assertIs(Ranks([[1, 2], [0]]).holds(council), False)
        self.assertIs(Ranks([[0], [1], [2]]).holds(council), False)
        self.assertIs(Ranks([[0, 1, 2]]).holds(council), False)
        self.assertIs(Ranks([[0, 1], [2]]).holds(council), False)

    def test_the_order_within_a_rank_does_not_matter(self):
        self.assertIs(Ranks([[0], [2, 1]]).holds(Council(3, [3, 5])), True)
        self.assertIs(Ranks([[3, 1, 0, 2]]).holds(Council(4, [15])), True)

    def test_left_out_or_twice(self):
        council = Council(3, [3, 5])
        for ranks in ([[0], [1]], [[0], [2]], [[1, 2]], [[0]], [], [[0], [1, 2, 2]], [[0, 0], [1, 2]],
                      [[0], [1, 2], [2]], [[0], [0], [1, 2]], [[0], [1, 2], [0]], [[0], [1, 1]]):
            self.assertIs(Ranks(ranks).holds(council), False)
        self.assertIs(Ranks([[0, 0]]).holds(Council(1, [1])), False)
        self.assertIs(Ranks([]).holds(Council(1, [1])), False)

    def test_empty_ranks(self):
        council = Council(3, [3, 5])
        for ranks in ([[]], [[], [0], [1, 2]], [[0], [], [1, 2]], [[0], [1, 2], []], [[], []]):
            self.assertIs(Ranks(ranks).holds(council), False)

    def test_of_councils_with_more_or_fewer_members(self):
        self.assertIs(Ranks([[0, 1, 2]]).holds(Council(3, [7])), True)
        self.assertIs(Ranks([[0, 1, 2]]).holds(Council(4, [7])), False)
        self.assertIs(Ranks([[0, 1, 2]]).holds(Council(2, [3])), False)
        self.assertIs(Ranks([[0, 1, 2], [3]]).holds(Council(4, [7])), True)
        self.assertIs(Ranks([[0, 1, 2], [3]]).holds(Council(3, [7])), False)

    def test_truths_are_no_members(self):
        self.assertIs(Ranks([[0, 1]]).holds(Council(2, [3])), True)
        self.assertIs(Ranks([[0, True]]).holds(Council(2, [3])), False)
        self.assertIs(Ranks([[False, 1]]).holds(Council(2, [3])), False)

    def test_where_there_are_none(self):
        council = Council(4, [3, 12])
        for ranks in all_ranks(4):
            self.assertIs(Ranks(ranks).holds(council), False)

    def test_fields_changed_afterwards(self):
        council = Council(3, [3, 5])
        answer = ranked(council)
        answer.ranks[1].reverse()
        self.assertIs(answer.holds(council), True)
        answer.ranks[1].append(0)
        self.assertIs(answer.holds(council), False)
        answer.ranks[1].pop()
        self.assertIs(answer.holds(council), True)
        answer.ranks.append([])
        self.assertIs(answer.holds(council), False)
        answer.ranks = [[0, 1, 2]]
        self.assertIs(answer.holds(council), False)
        self.assertIs(answer.holds(Council(3, [7])), True)
        answer.ranks.clear()
        self.assertIs(answer.holds(council), False)


class UnrankedHolds(unittest.TestCase):
    council = Council(4, [3, 12])

    def says(self, one, other, first, second, council=None):
        return Unranked(one, other, first, second).holds(council or self.council)

    def test_all_fields_of_some_councils_of_four(self):
        for told in ([3, 12], [5, 10, 3], [3, 5, 9, 14], [7], [6, 1], [], [0]):
            council = Council(4, told)
            table = table_of(council)
            for fields in itertools.product(range(4), range(4), groups(4), groups(4)):
                self.assertIs(self.says(*fields, council), unranked_is_so(*fields, table))

    def test_changed_members_and_groups_of_some_councils_of_five(self):
        for council, table in every_council(5)[::61]:
            answer = ranked(council)
            if isinstance(answer, Unranked):
                for one, other in itertools.product(range(5), range(5)):
                    fields = (one, other, answer.first, answer.second)
                    self.assertIs(self.says(*fields, council), unranked_is_so(*fields, table))
                for first, second in itertools.product(groups(5), groups(5)):
                    fields = (answer.one, answer.other, first, second)
                    self.assertIs(self.says(*fields, council), unranked_is_so(*fields, table))

    def test_by_hand(self):
        self.assertIs(self.says(0, 2, 2, 8), True)
        self.assertIs(self.says(2, 0, 8, 2), True)
        self.assertIs(self.says(0, 2, 8, 2), False)
        self.assertIs(self.says(2, 0, 2, 8), False)
        self.assertIs(self.says(0, 1, 2, 8), False)
        self.assertIs(self.says(0, 0, 2, 2), False)
        self.assertIs(self.says(0, 2, 2, 2), False)
        self.assertIs(self.says(0, 2, 0, 8), False)
        self.assertIs(self.says(0, 2, 2, 0), False)

    def test_groups_with_one_of_both(self):
        self.assertIs(self.says(0, 2, 3, 8), False)
        self.assertIs(self.says(0, 2, 2, 12), False)
        self.assertIs(self.says(0, 2, 6, 8), False)
        self.assertIs(self.says(0, 2, 2, 9), False)

    def test_of_other_councils(self):
        self.assertIs(self.says(0, 2, 2, 8, Council(4, [3])), False)
        self.assertIs(self.says(0, 2, 2, 8, Council(4, [12])), False)
        self.assertIs(self.says(0, 2, 2, 8, Council(4, [3, 12, 9])), False)
        self.assertIs(self.says(0, 2, 2, 8, Council(4, [])), False)
        self.assertIs(self.says(0, 2, 2, 8, Council(4, [0])), False)
        self.assertIs(self.says(0, 2, 2, 8, Council(5, [3, 12])), True)

    def test_of_a_smaller_council_that_has_no_such_members_or_groups(self):
        self.assertIs(self.says(0, 2, 2, 8, Council(3, [3])), False)
        self.assertIs(self.says(0, 2, 8, 2, Council(3, [3])), False)
        self.assertIs(self.says(0, 3, 2, 4, Council(3, [3])), False)
        self.assertIs(self.says(3, 0, 4, 2, Council(3, [3])), False)

    def test_fields_changed_afterwards(self):
        answer = Unranked(0, 2, 2, 8)
        self.assertIs(answer.holds(self.council), True)
        answer.one = 3
        self.assertIs(answer.holds(self.council), False)
        answer.one = 0
        answer.other = 3
        answer.second = 4
        self.assertIs(answer.holds(self.council), True)
        answer.first = 4
        self.assertIs(answer.holds(self.council), False)
        answer.first = 2
        self.assertIs(answer.holds(self.council), True)
        answer.second = 8
        self.assertIs(answer.holds(self.council), False)


if __name__ == "__main__":
    unittest.main()
