import unittest
from itertools import permutations
from math import factorial
from random import Random

from checking import FAR_OFF, all_orders, refused, ring_lengths
from ownboxes.errors import BadBox, BadOrder, NoNumber, TooMany
from ownboxes.orders import (
    behind, exchanged, made_order, order_at, order_by, order_number, rings_of, turned_back,
)


def some_orders(people, count, seed):
    lot = Random(seed)
    for turn in range(count):
        names = list(range(people))
        lot.shuffle(names)
        yield tuple(names)


class MadeOrder(unittest.TestCase):
    def test_lists_and_tuples(self):
        for names in ([2, 0, 1], (2, 0, 1)):
            told = made_order(names)
            self.assertEqual(told, (2, 0, 1))
            self.assertIs(type(told), tuple)

    def test_one_and_sixty(self):
        self.assertEqual(made_order([0]), (0,))
        self.assertEqual(made_order(list(range(59, -1, -1))), tuple(range(59, -1, -1)))

    def test_what_is_no_order(self):
        wrong = (
            [], list(range(61)), [0, 0], [1, 1, 0], [-1, 0], [0, -1], [0, 2], [1, 2, 3], [1], [-1],
            [0, FAR_OFF], [-FAR_OFF, 0], [FAR_OFF], list(range(59)) + [60], list(range(59)) + [0],
        )
        for names in wrong:
            refused(self, BadOrder, made_order, names)
            refused(self, BadOrder, made_order, tuple(names))

    def test_what_is_handed_in_is_neither_changed_nor_kept(self):
        names = [1, 2, 0]
        told = made_order(names)
        self.assertEqual(names, [1, 2, 0])
        names[0] = 5
        names.append(9)
        self.assertEqual(told, (1, 2, 0))


class Rings(unittest.TestCase):
    def test_as_told(self):
        self.assertEqual(rings_of((3, 0, 2, 1)), [(0, 3, 1), (2,)])
        self.assertEqual(rings_of((0,)), [(0,)])
        self.assertEqual(rings_of((0, 1, 2)), [(0,), (1,), (2,)])
        self.assertEqual(rings_of((4, 3, 2, 1, 0)), [(0, 4), (1, 3), (2,)])
        sixty = tuple(range(1, 60)) + (0,)
        self.assertEqual(rings_of(sixty), [tuple(range(60))])

    def test_form_for_all_orders(self):
        for people in range(1, 7):
            for order in all_orders(people):
                rings = rings_of(order)
                self.assertIs(type(rings), list)
                self.assertEqual(sorted(box for ring in rings for box in ring), list(range(people)))
                self.assertEqual([ring[0] for ring in rings], sorted(min(ring) for ring in rings))
                self.assertEqual([len(ring) for ring in rings], ring_lengths(order))
                for ring in rings:
                    self.assertIs(type(ring), tuple)
                    for box, coming in zip(ring, ring[1:] + ring[:1]):
                        self.assertEqual(order[box], coming)

    def test_told_anew_each_time(self):
        order = (1, 0, 2)
        first = rings_of(order)
        first.append("more")
        first[0] = "other"
        second = rings_of(order)
        self.assertEqual(second, [(0, 1), (2,)])
        self.assertIsNot(second, rings_of(order))

    def test_order_by_leads_back(self):
        for people in range(1, 6):
            for order in all_orders(people):
                self.assertEqual(order_by(rings_of(order)), order)

    def test_in_any_order_and_from_any_box(self):
        lot = Random(3)
        for people in (4, 7, 30, 60):
            for order in some_orders(people, 30, people):
                rings = rings_of(order)
                lot.shuffle(rings)
                turned = []
                for ring in rings:
                    start = lot.randrange(len(ring))
                    moved = ring[start:] + ring[:start]
                    turned.append(list(moved) if lot.randrange(2) else moved)
                told = order_by(turned)
                self.assertEqual(told, order)
                self.assertIs(type(told), tuple)

    def test_one_and_sixty(self):
        self.assertEqual(order_by([[0]]), (0,))
        self.assertEqual(order_by([(box,) for box in range(60)]), tuple(range(60)))
        self.assertEqual(order_by([list(range(60))]), tuple(range(1, 60)) + (0,))

    def test_what_are_no_rings(self):
        wrong = (
            [], [[]], [[], []], [(0, 1), ()], [(), (0, 1)], [(0, 1), (), (2,)],
            [(0, 1), (1, 2)], [(0, 1, 0)], [(0, 0)], [(0,), (0,)], [(0, 1, 2), (1,)],
            [(0, 2)], [(1,)], [(1, 2)], [(-1, 0)], [(0,), (-1,)], [(0, FAR_OFF)], [(-FAR_OFF,)],
            [tuple(range(61))], [(box,) for box in range(61)], [(0, 1, 3), (4, 5)],
        )
        for rings in wrong:
            refused(self, BadOrder, order_by, rings)
            refused(self, BadOrder, order_by, [list(ring) for ring in rings])

    def test_what_is_handed_in_is_neither_changed_nor_kept(self):
        rings = [[2, 1], [0]]
        told = order_by(rings)
        self.assertEqual(rings, [[2, 1], [0]])
        rings[0][0] = 7
        rings.pop()
        self.assertEqual(told, (0, 2, 1))


class Exchanged(unittest.TestCase):
    def test_only_the_two_names_change_places(self):
        self.assertEqual(exchanged((2, 0, 1, 3), 0, 3), (3, 0, 1, 2))
        for order in all_orders(4):
            for one, other in permutations(range(4), 2):
                told = exchanged(order, one, other)
                self.assertIs(type(told), tuple)
                for box in range(4):
                    was = {one: other, other: one}.get(box, box)
                    self.assertEqual(told[box], order[was])

    def test_one_ring_more_or_less_and_twice_leads_back(self):
        for people in (2, 3, 4, 5, 60):
            orders = all_orders(people) if people < 6 else some_orders(people, 3, 1)
            for order in orders:
                rings = rings_of(order)
                for one, other in permutations(range(people), 2):
                    together = any(one in ring and other in ring for ring in rings)
                    told = exchanged(order, one, other)
                    self.assertEqual(len(rings_of(told)), len(rings) + (1 if together else -1))
                    self.assertEqual(exchanged(told, one, other), order)

    def test_what_is_no_box(self):
        for order in ((0,), (1, 0), (2, 0, 1), tuple(range(60))):
            people = len(order)
            for far in (-1, people, people + 1, -people, FAR_OFF, -FAR_OFF):
                refused(self, BadBox, exchanged, order, far, 0)
                refused(self, BadBox, exchanged, order, 0, far)
                refused(self, BadBox, exchanged, order, far, far)
            for box in range(people):
                refused(self, BadBox, exchanged, order, box, box)


class TurnedBackAndBehind(unittest.TestCase):
    def test_turned_back(self):
        self.assertEqual(turned_back((0,)), (0,))
        self.assertEqual(turned_back((2, 0, 1)), (1, 2, 0))
        for people in (1, 2, 3, 4, 5, 60):
            for order in (all_orders(people) if people < 6 else some_orders(people, 20, 5)):
                told = turned_back(order)
                self.assertIs(type(told), tuple)
                for person in range(people):
                    self.assertEqual(order[told[person]], person)
                self.assertEqual(turned_back(told), order)

    def test_behind_in_the_order_that_is_told(self):
        self.assertEqual(behind((1, 2, 0), (0, 2, 1)), (2, 1, 0))
        self.assertEqual(behind((0, 2, 1), (1, 2, 0)), (1, 0, 2))
        for one in all_orders(4):
            for other in all_orders(4):
                told = behind(one, other)
                self.assertIs(type(told), tuple)
                self.assertEqual(told, tuple(other[one[box]] for box in range(4)))

    def test_behind_its_own_turned_back(self):
        for order in some_orders(60, 20, 6):
            self.assertEqual(behind(order, turned_back(order)), tuple(range(60)))
            self.assertEqual(behind(turned_back(order), order), tuple(range(60)))

    def test_unlike_counts(self):
        refused(self, BadOrder, behind, (0,), (0, 1))
        refused(self, BadOrder, behind, (1, 0), (0,))
        refused(self, BadOrder, behind, tuple(range(60)), tuple(range(59)))
        refused(self, BadOrder, behind, tuple(range(59)), tuple(range(60)))


class Numbers(unittest.TestCase):
    def test_all_orders_rise(self):
        for people in range(1, 6):
            told = [order_at(people, number) for number in range(factorial(people))]
            self.assertEqual(told, sorted(all_orders(people)))
            self.assertEqual([order_number(order) for order in told], list(range(factorial(people))))
            self.assertTrue(all(type(order) is tuple for order in told))

    def test_sixty_there_and_back(self):
        last = factorial(60) - 1
        self.assertEqual(order_at(60, 0), tuple(range(60)))
        self.assertEqual(order_at(60, last), tuple(range(59, -1, -1)))
        self.assertEqual(order_number(tuple(range(60))), 0)
        self.assertEqual(order_number(tuple(range(59, -1, -1))), last)
        lot = Random(9)
        for number in [1, last - 1, last // 2] + [lot.randrange(last) for turn in range(40)]:
            order = order_at(60, number)
            self.assertEqual(sorted(order), list(range(60)))
            self.assertEqual(order_number(order), number)
        for order in some_orders(60, 40, 2):
            self.assertEqual(order_at(60, order_number(order)), order)

    def test_neighbours_of_sixty_rise(self):
        number = factorial(60) // 3
        rising = [order_at(60, number + step) for step in range(50)]
        self.assertEqual(rising, sorted(set(rising)))

    def test_too_many_goes_ahead_of_no_number(self):
        for people in (0, -1, 61, FAR_OFF, -FAR_OFF):
            for number in (0, -1, 1, FAR_OFF, -FAR_OFF):
                refused(self, TooMany, order_at, people, number)

    def test_no_number(self):
        for people in (1, 2, 5, 60):
            for number in (-1, factorial(people), factorial(people) + 1, FAR_OFF, -FAR_OFF):
                refused(self, NoNumber, order_at, people, number)


if __name__ == "__main__":
    unittest.main()
