import unittest

from helper import every_council, groups, table_by_weights, tables, trade_is_so, weights_are_so
from weighvote.councils import Council, weighted
from weighvote.tellings import Answer, Trade, Weights, telling


class Telling(unittest.TestCase):
    def check(self, members, council, table):
        answer = telling(council)
        self.assertIn(answer.__class__, (Weights, Trade))
        if isinstance(answer, Weights):
            self.assertTrue(weights_are_so(answer.weights, answer.quota, members, table))
            self.assertTrue(all(type(w) is int and 0 <= w <= 1000000 for w in answer.weights))
            self.assertTrue(type(answer.quota) is int and 0 <= answer.quota <= 5000001)
            self.assertEqual([g for g in groups(members) if weighted(answer.weights, answer.quota).carries(g)], table)
        else:
            self.assertTrue(trade_is_so(answer.carry, answer.fail, members, table))
        self.assertIs(answer.holds(council), True)
        return answer

    def test_every_council(self):
        for members, by_trade in ((1, 0), (2, 0), (3, 0), (4, 18), (5, 4294)):
            answers = [self.check(members, council, table) for council, table in every_council(members)]
            self.assertEqual(len([a for a in answers if isinstance(a, Trade)]), by_trade)

    def test_by_hand(self):
        self.assertIsInstance(telling(Council(4, [3, 12])), Trade)
        self.assertIsInstance(telling(Council(4, [3, 5, 9, 14])), Weights)
        self.assertIsInstance(telling(Council(5, [3, 12])), Trade)
        self.assertIsInstance(telling(weighted([1000000, 999999, 3, 1, 0], 1000002)), Weights)
        self.assertIsInstance(telling(weighted([5, 4, 3, 2, 2], 9)), Weights)

    def test_no_group_and_nobody_and_all(self):
        for members in range(1, 6):
            for told in ([], [0], [2 ** members - 1]):
                self.assertIsInstance(telling(Council(members, told)), Weights)

    def test_the_council_stays(self):
        council = Council(4, [12, 3])
        telling(council)
        self.assertEqual((council.members, council.least(), council.greatest()), (4, [3, 12], [5, 6, 9, 10]))

    def test_each_answer_is_the_askers_own(self):
        for council in (Council(4, [3, 12]), Council(3, [3])):
            answer = telling(council)
            for field in vars(answer).values():
                if isinstance(field, list):
                    field.clear()
            self.assertIs(answer.holds(council), False)
            self.assertIs(telling(council).holds(council), True)

    def test_of_every_other_council_of_four(self):
        made = every_council(4)
        for council, table in made[::3]:
            answer = telling(council)
            for other, other_table in made:
                if isinstance(answer, Weights):
                    wanted = weights_are_so(answer.weights, answer.quota, 4, other_table)
                else:
                    wanted = trade_is_so(answer.carry, answer.fail, 4, other_table)
                self.assertIs(answer.holds(other), wanted)

    def test_never_both(self):
        trades = [telling(council) for council, table in every_council(4)]
        trades = [answer for answer in trades if isinstance(answer, Trade)]
        for council, table in every_council(4):
            if isinstance(telling(council), Weights):
                self.assertFalse(any(trade.holds(council) for trade in trades))


class Kinds(unittest.TestCase):
    def test_straight_under_answer(self):
        self.assertEqual(Weights.__bases__, (Answer,))
        self.assertEqual(Trade.__bases__, (Answer,))

    def test_an_answer_that_tells_nothing(self):
        self.assertIs(Answer().holds(Council(2, [1])), False)

    def test_fields(self):
        answer = Weights([2, 1, 1], 3)
        self.assertEqual((answer.weights, answer.quota), ([2, 1, 1], 3))
        answer = Trade([3, 12], [5, 10])
        self.assertEqual((answer.carry, answer.fail), ([3, 12], [5, 10]))

    def test_lists_are_copied(self):
        weights = [2, 1, 1]
        answer = Weights(weights, 3)
        weights[0] = 0
        weights.append(1)
        self.assertEqual(answer.weights, [2, 1, 1])
        self.assertIs(answer.holds(weighted([2, 1, 1], 3)), True)
        carry, fail = [3, 12], [5, 10]
        answer = Trade(carry, fail)
        carry.clear()
        fail.append(7)
        self.assertEqual((answer.carry, answer.fail), ([3, 12], [5, 10]))
        self.assertIs(answer.holds(Council(4, [3, 12])), True)

    def test_one_list_for_both(self):
        shared = [3, 12]
        answer = Trade(shared, shared)
        answer.carry.append(1)
        self.assertEqual(answer.fail, [3, 12])

    def test_asking_changes_no_field(self):
        answer = Trade([12, 3], [10, 5])
        answer.holds(Council(4, [3, 12]))
        self.assertEqual((answer.carry, answer.fail), ([12, 3], [10, 5]))
        answer = Weights([2, 1, 1], 3)
        answer.holds(Council(4, [3, 12]))
        self.assertEqual((answer.weights, answer.quota), ([2, 1, 1], 3))


class WeightsHold(unittest.TestCase):
    def test_one_more_or_less_over_many_councils(self):
        for members, step in ((1, 1), (2, 1), (3, 1), (4, 1), (5, 29)):
            for council, table in every_council(members)[::step]:
                answer = telling(council)
                if isinstance(answer, Weights):
                    self.check_near(answer, council, table)

    def check_near(self, answer, council, table):
        weights, quota = answer.weights, answer.quota
        near = [(weights, quota + 1), (weights, max(quota - 1, 0))]
        near.extend([(weights + [0], quota), (weights + [1], quota), ([0] + weights, quota)])
        near.extend([(weights[:-1], quota), (weights[1:], quota), ([], quota), ([], 0)])
        for k in range(len(weights)):
            near.append((weights[:k] + [weights[k] + 1] + weights[k + 1:], quota))
            near.append((weights[:k] + [max(weights[k] - 1, 0)] + weights[k + 1:], quota))
        for other_weights, other_quota in near:
            wanted = weights_are_so(other_weights, other_quota, council.members, table)
            self.assertIs(Weights(other_weights, other_quota).holds(council), wanted)

    def test_all_small_weights_of_all_councils_of_three(self):
        made = every_council(3)
        for number in range(4 ** 3):
            weights = [number % 4, number // 4 % 4, number // 16]
            for quota in range(11):
                table = table_by_weights(weights, quota)
                answer = Weights(weights, quota)
                self.assertEqual([answer.holds(c) for c, t in made], [t == table for c, t in made])

    def test_by_hand(self):
        council = Council(3, [3, 5])
        self.assertIs(Weights([2, 1, 1], 3).holds(council), True)
        self.assertIs(Weights([2, 1, 1], 2).holds(council), False)
        self.assertIs(Weights([2, 1, 1], 4).holds(council), False)
        self.assertIs(Weights([1, 1, 1], 3).holds(council), False)
        self.assertIs(Weights([3, 1, 1], 3).holds(council), False)

    def test_a_weight_too_many_or_too_few_though_the_sums_are_right(self):
        council = Council(3, [3])
        self.assertIs(Weights([1, 1, 0], 2).holds(council), True)
        self.assertIs(Weights([1, 1], 2).holds(council), False)
        self.assertIs(Weights([1, 1, 0, 0], 2).holds(council), False)
        self.assertIs(Weights([1, 1, 0, 0, 0, 0, 0], 2).holds(council), False)
        self.assertIs(Weights([], 0).holds(Council(1, [0])), False)
        self.assertIs(Weights([], 1).holds(Council(1, [])), False)

    def test_bounds_do_not_matter(self):
        council = Council(2, [3])
        self.assertIs(Weights([1000001, 1000001], 2000002).holds(council), True)
        self.assertIs(Weights([10 ** 30, 10 ** 30], 2 * 10 ** 30).holds(council), True)
        self.assertIs(Weights([10 ** 30, 10 ** 30], 2 * 10 ** 30 + 1).holds(council), False)
        self.assertIs(Weights([1, 1], 5000002).holds(Council(2, [])), True)

    def test_fields_changed_afterwards(self):
        council = Council(3, [3, 5])
        answer = Weights([2, 1, 1], 3)
        answer.quota = 4
        self.assertIs(answer.holds(council), False)
        self.assertIs(answer.holds(Council(3, [7])), True)
        answer.quota = 3
        self.assertIs(answer.holds(council), True)
        answer.weights[0] = 1
        self.assertIs(answer.holds(council), False)
        self.assertIs(answer.holds(Council(3, [7])), True)
        answer.weights = [4, 2, 2]
        answer.quota = 5
        self.assertIs(answer.holds(council), True)
        answer.weights.append(0)
        self.assertIs(answer.holds(council), False)
        self.assertIs(answer.holds(Council(4, [3, 5])), True)


class TradeHolds(unittest.TestCase):
    council = Council(4, [3, 12])

    def says(self, carry, fail, council=None):
        return Trade(carry, fail).holds(council or self.council)

    def test_by_hand(self):
        self.assertIs(self.says([3, 12], [5, 10]), True)
        self.assertIs(self.says([12, 3], [9, 6]), True)
        self.assertIs(self.says([3, 12], [5, 5]), False)
        self.assertIs(self.says([3, 12], [5, 6]), False)
        self.assertIs(self.says([3, 7], [5, 10]), False)

    def test_a_group_in_the_wrong_list(self):
        self.assertIs(self.says([3, 12], [3, 12]), False)
        self.assertIs(self.says([5, 10], [5, 10]), False)
        self.assertIs(self.says([5, 10], [3, 12]), False)
        self.assertIs(self.says([3, 12], [5, 15]), False)
        self.assertIs(self.says([3, 0], [5, 10]), False)

    def test_empty_lists(self):
        self.assertIs(self.says([], []), False)
        self.assertIs(self.says([3], []), False)
        self.assertIs(self.says([], [5]), False)

    def test_unlike_lengths(self):
        self.assertIs(self.says([3, 12], [5, 10, 0]), False)
        self.assertIs(self.says([3, 12], [5, 10, 5]), False)
        self.assertIs(self.says([3, 12, 3], [5, 10]), False)
        self.assertIs(self.says([3], [5, 10]), False)

    def test_one_more_in_both(self):
        self.assertIs(self.says([3, 12, 3], [5, 10, 5]), False)
        self.assertIs(self.says([3, 12, 3, 12], [5, 10, 6, 9]), True)

    def test_one_may_stand_there_twice(self):
        self.assertIs(self.says([3, 3, 12, 12], [5, 5, 10, 10]), True)

    def test_more_often_is_enough_and_less_often_is_not(self):
        council = Council(5, [3, 12])
        self.assertIs(self.says([3, 12], [5, 10], council), True)
        self.assertIs(self.says([3, 12], [21, 10], council), True)
        self.assertIs(self.says([3, 12], [21, 26], council), True)
        self.assertIs(self.says([19, 12], [5, 10], council), False)
        self.assertIs(self.says([19, 12], [21, 10], council), True)

    def test_of_other_councils(self):
        self.assertIs(self.says([3, 12], [5, 10], Council(4, [3])), False)
        self.assertIs(self.says([3, 12], [5, 10], Council(4, [3, 12, 5])), False)
        self.assertIs(self.says([3, 12], [5, 10], Council(4, [])), False)
        self.assertIs(self.says([3, 12], [5, 10], Council(4, [0])), False)

    def test_of_a_smaller_council_that_has_no_such_groups(self):
        self.assertIs(self.says([3, 12], [5, 10], Council(3, [3])), False)
        self.assertIs(self.says([3, 4], [5, 10], Council(3, [3, 4])), False)

    def test_all_pairs_of_groups_of_some_councils(self):
        for told in ([3, 12], [3, 12, 5], [3, 5, 9, 14], [7], [1]):
            council = Council(4, told)
            table = [g for g in groups(4) if any(g & t == t for t in told)]
            for number in range(16 ** 4):
                carry, fail = [number % 16, number // 16 % 16], [number // 256 % 16, number // 4096]
                # Every seventh is enough here: 7 and 16 share no factor, so all groups come everywhere.
                if number % 7 == 0:
                    self.assertIs(Trade(carry, fail).holds(council), trade_is_so(carry, fail, 4, table))

    def test_a_group_put_for_another(self):
        for table in tables(5)[::41]:
            council = Council(5, table)
            answer = telling(council)
            if isinstance(answer, Trade):
                for g in groups(5):
                    for carry, fail in (([g] + answer.carry[1:], answer.fail), (answer.carry, [g] + answer.fail[1:]),
                                        (answer.carry + [g], answer.fail), (answer.carry, answer.fail + [g]),
                                        (answer.carry + [g], answer.fail + [g])):
                        self.assertIs(Trade(carry, fail).holds(council), trade_is_so(carry, fail, 5, table))

    def test_fields_changed_afterwards(self):
        answer = telling(self.council)
        answer.carry.append(3)
        self.assertIs(answer.holds(self.council), False)
        answer.carry.pop()
        self.assertIs(answer.holds(self.council), True)
        answer.fail = [5, 9]
        self.assertIs(answer.holds(self.council), False)
        answer.fail = [5, 10]
        answer.carry = [3, 12]
        self.assertIs(answer.holds(self.council), True)
        answer.fail[1] = 15
        self.assertIs(answer.holds(self.council), False)
        answer.carry = []
        answer.fail = []
        self.assertIs(answer.holds(self.council), False)


if __name__ == "__main__":
    unittest.main()
