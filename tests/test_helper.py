import unittest
from itertools import combinations
from random import Random

from checking import FAR_OFF, all_orders, lot_order, refused, ring_lengths
from ownboxes.errors import BadBox, BadOpenings, NoHelp
from ownboxes.helper import exchanges, need, needs_along
from ownboxes.orders import exchanged


def need_by_rings(order, k):
    return sum((length - 1) // k for length in ring_lengths(order))


def behind_exchanges(order, pairs):
    for one, other in pairs:
        order = exchanged(order, one, other)
    return order


def cases():
    """Orders with openings: all of up to 5 people, many of up to 60."""
    for people in range(1, 6):
        for order in all_orders(people):
            for k in range(1, people + 1):
                yield order, k
    lot = Random(27)
    for people in (6, 13, 20, 59, 60):
        whole = tuple(range(1, people)) + (0,)
        for order in [whole, tuple(range(people))] + [lot_order(lot, people) for turn in range(12)]:
            for k in sorted({1, 2, 3, people // 3, people // 2, (people + 1) // 2, people - 1, people}):
                yield order, k


def fewest_exchanges(people, k):
    """For each order the fewest exchanges up to a good one, gone through from the good ones on."""
    steps = {order: 0 for order in all_orders(people) if max(ring_lengths(order)) <= k}
    reached = list(steps)
    for order in reached:
        for one, other in combinations(range(people), 2):
            names = list(order)
            names[one], names[other] = names[other], names[one]
            if tuple(names) not in steps:
                steps[tuple(names)] = steps[order] + 1
                reached.append(tuple(names))
    return steps


class Need(unittest.TestCase):
    def test_against_the_rings(self):
        for order, k in cases():
            self.assertEqual(need(order, k), need_by_rings(order, k))
            self.assertEqual(need(order, k) == 0, max(ring_lengths(order)) <= k)

    def test_no_fewer_are_enough(self):
        for people in range(1, 6):
            for k in range(1, people + 1):
                for order, steps in fewest_exchanges(people, k).items():
                    self.assertEqual(need(order, k), steps)
                    self.assertEqual(len(exchanges(order, k)), steps)

    def test_at_most_twice_as_many_boxes_as_k(self):
        for order, k in cases():
            if len(order) <= 2 * k:
                self.assertIn(need(order, k), (0, 1))
                self.assertLessEqual(len(exchanges(order, k)), 1)
        self.assertEqual(need((1, 2, 3, 4, 0), 2), 2)

    def test_plain_cases(self):
        self.assertEqual(need((1, 2, 3, 0), 1), 3)
        self.assertEqual(need((1, 2, 3, 0), 2), 1)
        self.assertEqual(need((1, 2, 3, 0), 3), 1)
        self.assertEqual(need((1, 2, 3, 0), 4), 0)
        self.assertEqual(need((1, 2, 0, 4, 5, 3), 2), 2)
        self.assertEqual(need((0,), 1), 0)


class Exchanges(unittest.TestCase):
    def test_the_order_behind_them_is_good(self):
        for order, k in cases():
            told = exchanges(order, k)
            self.assertIs(type(told), list)
            self.assertEqual(len(told), need_by_rings(order, k))
            for pair in told:
                self.assertIs(type(pair), tuple)
                self.assertEqual(len(pair), 2)
                self.assertLess(pair[0], pair[1])
            self.assertLessEqual(max(ring_lengths(behind_exchanges(order, told))), k)
            self.assertEqual(needs_along(order, k, told), list(range(len(told), -1, -1)))

    def test_what_is_told_is_the_askers_own(self):
        order = (1, 2, 3, 0)
        first = exchanges(order, 1)
        before = list(first)
        first.clear()
        self.assertEqual(exchanges(order, 1), before)
        self.assertIsNot(exchanges(order, 1), exchanges(order, 1))
        self.assertIsNot(exchanges((0,), 1), exchanges((0,), 1))


class NeedsAlong(unittest.TestCase):
    def test_any_pairs_in_either_order(self):
        lot = Random(28)
        for order, k in cases():
            people = len(order)
            pairs = [tuple(lot.sample(range(people), 2)) for turn in range(4 if people > 1 else 0)]
            needs = [need_by_rings(behind_exchanges(order, pairs[:count]), k) for count in range(len(pairs) + 1)]
            told = needs_along(order, k, pairs)
            self.assertEqual(told, needs)
            self.assertIs(type(told), list)
            self.assertEqual(needs_along(order, k, [pair[::-1] for pair in pairs]), needs)

    def test_no_pairs(self):
        for order, k in cases():
            self.assertEqual(needs_along(order, k, []), [need_by_rings(order, k)])

    def test_less_by_at_most_one_and_by_one_where_it_is_above_nought(self):
        for people in range(2, 6):
            for order in all_orders(people):
                for k in range(1, people + 1):
                    behind = [needs_along(order, k, [pair]) for pair in combinations(range(people), 2)]
                    less = max(before - later for before, later in behind)
                    self.assertLessEqual(less, 1)
                    self.assertTrue(less == 1 or need(order, k) == 0)

    def test_what_is_handed_in_is_neither_changed_nor_kept(self):
        pairs = [(0, 2), (3, 1)]
        first = needs_along((1, 2, 3, 0), 1, pairs)
        self.assertEqual(pairs, [(0, 2), (3, 1)])
        before = list(first)
        pairs.append((0, 1))
        self.assertEqual(first, before)
        first.append(9)
        self.assertEqual(needs_along((1, 2, 3, 0), 1, [(0, 2), (3, 1)]), before)


class Refusals(unittest.TestCase):
    def wrong_pairs(self, people):
        for box in (-1, -people, people, FAR_OFF, -FAR_OFF):
            yield (0, box)
            yield (box, 0)
            yield (box, box)
        yield (0, 0)
        yield (people - 1, people - 1)

    def test_bad_openings_go_first(self):
        for people in (1, 2, 5, 60):
            order = tuple(range(people))
            for k in (-1, -people, people + 1, FAR_OFF, -FAR_OFF):
                refused(self, BadOpenings, need, order, k)
                refused(self, BadOpenings, exchanges, order, k)
                for pairs in ([], [(0, 0)], [(0, people)]):
                    refused(self, BadOpenings, needs_along, order, k, pairs)

    def test_no_help_goes_before_bad_box(self):
        for people in (1, 2, 5, 60):
            order = tuple(range(people))
            refused(self, NoHelp, need, order, 0)
            refused(self, NoHelp, exchanges, order, 0)
            for pairs in ([], [(0, 0)], [(0, people)]):
                refused(self, NoHelp, needs_along, order, 0, pairs)

    def test_a_bad_box_at_any_place(self):
        for people in (1, 2, 5, 60):
            order = tuple(range(people))
            good = [(0, people - 1)] * 3 if people > 1 else []
            for wrong in self.wrong_pairs(people):
                for place in range(len(good) + 1):
                    refused(self, BadBox, needs_along, order, 1, good[:place] + [wrong] + good[place:])
                    refused(self, BadBox, needs_along, order, people, good[:place] + [wrong] + good[place:])


if __name__ == "__main__":
    unittest.main()
