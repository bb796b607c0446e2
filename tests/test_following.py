import unittest
from itertools import product
from random import Random

from checking import FAR_OFF, all_orders, no_openings_beside, refused, walked, who_find
from ownboxes.errors import BadOpenings, NoPerson
from ownboxes.following import all_find, finders, finds, made_openings, opened, short_ring
from ownboxes.orders import rings_of


def cases():
    """Orders with openings: all of up to 3 people, many of up to 60."""
    for people in (1, 2, 3):
        for order in all_orders(people):
            for openings in product(range(people + 1), repeat=people):
                yield order, openings
    lot = Random(11)
    for people in (4, 5, 6, 17, 60):
        for turn in range(60):
            names = list(range(people))
            lot.shuffle(names)
            yield tuple(names), tuple(lot.randint(0, people) for person in names)
            yield tuple(names), (turn * people // 59,) * people


class MadeOpenings(unittest.TestCase):
    def test_lists_and_tuples(self):
        for numbers in ([3, 0, 1], (3, 0, 1)):
            told = made_openings(3, numbers)
            self.assertEqual(told, (3, 0, 1))
            self.assertIs(type(told), tuple)

    def test_one_and_sixty(self):
        self.assertEqual(made_openings(1, [0]), (0,))
        self.assertEqual(made_openings(1, [1]), (1,))
        self.assertEqual(made_openings(60, [60] * 60), (60,) * 60)
        self.assertEqual(made_openings(60, list(range(60))), tuple(range(60)))

    def test_people_not_from_one_to_sixty(self):
        for people, numbers in ((0, []), (0, [0]), (-1, []), (-1, [0]), (61, [1] * 61), (61, [1] * 60),
                                (FAR_OFF, [1]), (-FAR_OFF, [1])):
            refused(self, BadOpenings, made_openings, people, numbers)

    def test_not_as_many_as_people(self):
        for people, numbers in ((1, []), (1, [1, 1]), (3, [1, 1]), (3, [1] * 4), (60, [1] * 59), (60, [1] * 61)):
            refused(self, BadOpenings, made_openings, people, numbers)
            refused(self, BadOpenings, made_openings, people, tuple(numbers))

    def test_one_out_of_bounds(self):
        for people in (1, 2, 3, 60):
            for wrong in (-1, people + 1, FAR_OFF, -FAR_OFF):
                for place in {0, people // 2, people - 1}:
                    numbers = [1] * people
                    numbers[place] = wrong
                    refused(self, BadOpenings, made_openings, people, numbers)

    def test_what_is_handed_in_is_neither_changed_nor_kept(self):
        numbers = [2, 1, 0]
        told = made_openings(3, numbers)
        self.assertEqual(numbers, [2, 1, 0])
        numbers[0] = 9
        numbers.append(4)
        self.assertEqual(told, (2, 1, 0))


class Following(unittest.TestCase):
    def test_opened_and_finds_as_walked(self):
        for order, openings in cases():
            for person in range(len(order)):
                boxes, found = walked(order, person, openings[person])
                told = opened(order, openings, person)
                self.assertEqual(told, boxes)
                self.assertIs(type(told), list)
                self.assertIs(finds(order, openings, person), found)

    def test_finds_just_where_the_ring_is_no_longer_than_its_openings(self):
        for order, openings in cases():
            for ring in rings_of(order):
                for person in ring:
                    self.assertEqual(finds(order, openings, person), openings[person] >= len(ring))

    def test_finders_and_all_find_as_walked(self):
        for order, openings in cases():
            found = who_find(order, openings)
            told = finders(order, openings)
            self.assertEqual(told, found)
            self.assertIs(type(told), tuple)
            self.assertIs(all_find(order, openings), len(found) == len(order))

    def test_short_ring_is_the_first_one_as_told(self):
        for order, openings in cases():
            short = [ring for ring in rings_of(order) if any(openings[box] < len(ring) for box in ring)]
            self.assertEqual(short_ring(order, openings), short[0] if short else None)

    def test_plain_cases(self):
        order = (3, 0, 2, 1)
        self.assertEqual(opened(order, (3, 2, 1, 4), 1), [1, 0])
        self.assertEqual(opened(order, (3, 2, 1, 4), 3), [3, 1, 0])
        self.assertEqual(finders(order, (3, 2, 1, 4)), (0, 2, 3))
        self.assertEqual(short_ring(order, (3, 2, 0, 4)), (0, 3, 1))
        self.assertEqual(short_ring(order, (3, 3, 0, 4)), (2,))
        self.assertIsNone(short_ring(order, (3, 3, 1, 3)))

    def test_openings_of_nought(self):
        self.assertEqual(opened((0, 1), (0, 1), 0), [])
        self.assertIs(finds((0, 1), (0, 1), 0), False)
        self.assertEqual(finders((0, 1), (0, 0)), ())
        self.assertIs(all_find((0, 1), (1, 0)), False)
        self.assertEqual(short_ring((0, 1), (1, 0)), (1,))
        self.assertEqual(short_ring((0,), (0,)), (0,))

    def test_what_is_told_is_the_askers_own(self):
        order, openings = (1, 2, 0), (3, 3, 3)
        first = opened(order, openings, 0)
        first.append(9)
        self.assertEqual(opened(order, openings, 0), [0, 1, 2])
        self.assertIsNot(opened(order, openings, 0), opened(order, openings, 0))

    def test_bad_openings_by_each(self):
        for people in (1, 2, 5, 60):
            order = tuple(range(people))
            for openings in no_openings_beside(people):
                for function in (finders, all_find, short_ring):
                    refused(self, BadOpenings, function, order, openings)
                for person in (0, people - 1, -1, people, FAR_OFF):
                    refused(self, BadOpenings, opened, order, openings, person)
                    refused(self, BadOpenings, finds, order, openings, person)

    def test_no_person(self):
        for people in (1, 2, 5, 60):
            order = tuple(range(people))
            for person in (-1, -people, people, people + 1, FAR_OFF, -FAR_OFF):
                refused(self, NoPerson, opened, order, (1,) * people, person)
                refused(self, NoPerson, finds, order, (0,) * people, person)


if __name__ == "__main__":
    unittest.main()
