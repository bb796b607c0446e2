import unittest
from itertools import combinations
from math import comb, factorial
from random import Random

from checking import FAR_OFF, all_orders, refused, who_find
from ownboxes.counting import many_good
from ownboxes.errors import BadGroup, BadOpenings, TooMany
from ownboxes.groups import many_all_of, many_none_of

BOTH = (many_all_of, many_none_of)


def all_groups(people):
    return [group for size in range(people + 1) for group in combinations(range(people), size)]


def some_group(lot, people, size):
    return tuple(sorted(lot.sample(range(people), size)))


def no_groups(people):
    """Tuples that are no set of so many people."""
    for wrong in (-1, -people - 1, people, people + 1, FAR_OFF, -FAR_OFF):
        yield (wrong,)
        yield (0, wrong)
        yield (wrong, people - 1)
        yield tuple(range(people)) + (wrong,)
        yield (wrong,) + tuple(range(people))
    yield (0, 0)
    yield tuple(range(people)) + (people - 1,)
    yield (0,) + tuple(range(people))
    if people > 1:
        yield (1, 0)
        yield tuple(range(people - 1, -1, -1))
        yield tuple(range(people)) + (0,)
        yield (0, people - 1, people - 1)
    if people > 2:
        yield (0, 2, 1)
        yield (1, 0, 2)
        yield (0, 1, 1, 2)


class AllOrders(unittest.TestCase):
    def test_against_all_orders(self):
        for people in range(7):
            for k in range(people + 2):
                found = [set(who_find(order, (k,) * people)) for order in all_orders(people)]
                for group in all_groups(people):
                    self.assertEqual(many_all_of(people, k, group), sum(one.issuperset(group) for one in found))
                    self.assertEqual(many_none_of(people, k, group), sum(one.isdisjoint(group) for one in found))

    def test_plain_cases(self):
        self.assertEqual(many_all_of(3, 1, (0, 2)), 1)
        self.assertEqual(many_none_of(3, 1, (0, 2)), 3)
        self.assertEqual(many_all_of(4, 2, (1, 3)), 10)
        self.assertEqual(many_none_of(4, 2, (1, 3)), 10)


class ManyPeople(unittest.TestCase):
    def cases(self):
        lot = Random(30)
        for people in (7, 13, 30, 60):
            for k in (0, 1, 2, 3, people // 3, people // 2, people - 1, people, people + 1, FAR_OFF):
                yield lot, people, k

    def test_of_none_by_adding_and_taking_off_those_of_all(self):
        for lot, people, k in self.cases():
            for size in (1, 2, 3, people // 2, people - 1, people):
                parts = [(-1) ** m * comb(size, m) * many_all_of(people, k, tuple(range(m))) for m in range(size + 1)]
                self.assertEqual(many_none_of(people, k, some_group(lot, people, size)), sum(parts))

    def test_of_all_by_adding_and_taking_off_those_of_none(self):
        for lot, people, k in self.cases():
            for size in (1, 2, 3, people // 2, people - 1, people):
                parts = [(-1) ** m * comb(size, m) * many_none_of(people, k, tuple(range(m))) for m in range(size + 1)]
                self.assertEqual(many_all_of(people, k, some_group(lot, people, size)), sum(parts))

    def test_both_hang_on_how_many_the_group_are(self):
        for lot, people, k in self.cases():
            for size in (1, 2, people // 2, people - 1):
                first, last = tuple(range(size)), tuple(range(people - size, people))
                for function in BOTH:
                    self.assertEqual(function(people, k, first), function(people, k, last))
                    self.assertEqual(function(people, k, first), function(people, k, some_group(lot, people, size)))

    def test_the_empty_group(self):
        for lot, people, k in self.cases():
            for function in BOTH:
                self.assertEqual(function(people, k, ()), factorial(people))

    def test_all_people(self):
        for lot, people, k in self.cases():
            self.assertEqual(many_all_of(people, k, tuple(range(people))), many_good(people, k))

    def test_one_person(self):
        for lot, people, k in self.cases():
            finding = min(k, people) * factorial(people - 1)
            for person in (0, people // 2, people - 1):
                self.assertEqual(many_all_of(people, k, (person,)), finding)
                self.assertEqual(many_none_of(people, k, (person,)), factorial(people) - finding)

    def test_two_people(self):
        for people in (7, 13, 30, 60):
            for k in range(people // 2, people + 1):
                # In one ring of so many boxes, or in two rings, each in at most k boxes.
                together = sum((length - 1) * factorial(people - 2) for length in range(2, k + 1))
                apart = sum(min(k, people - length) * factorial(people - 2) for length in range(1, k + 1))
                self.assertEqual(many_all_of(people, k, (0, people - 1)), together + apart)

    def test_k_far_above_the_people(self):
        for people in (1, 5, 60):
            for group in ((0,), (people - 1,), tuple(range(people))):
                for k in (people, people + 1, FAR_OFF):
                    self.assertEqual(many_all_of(people, k, group), factorial(people))
                    self.assertEqual(many_none_of(people, k, group), 0)

    def test_no_openings(self):
        for people in (1, 5, 60):
            for group in ((0,), (people - 1,), tuple(range(people))):
                self.assertEqual(many_all_of(people, 0, group), 0)
                self.assertEqual(many_none_of(people, 0, group), factorial(people))

    def test_nobody(self):
        for k in (0, 1, 5, FAR_OFF):
            for function in BOTH:
                self.assertEqual(function(0, k, ()), 1)


class Refusals(unittest.TestCase):
    def test_too_many_goes_first(self):
        for people in (-1, 61, FAR_OFF, -FAR_OFF):
            for k in (1, -1, -FAR_OFF):
                for group in ((), (0,), (1, 0), (-1,), (FAR_OFF,)):
                    for function in BOTH:
                        refused(self, TooMany, function, people, k, group)

    def test_bad_openings_go_before_bad_group(self):
        for people in (0, 1, 5, 60):
            for k in (-1, -FAR_OFF):
                for group in ((), (0,), (1, 0), (-1,), (people,), (FAR_OFF,)):
                    for function in BOTH:
                        refused(self, BadOpenings, function, people, k, group)

    def test_bad_group(self):
        for people in (1, 2, 3, 5, 60):
            for k in (0, 1, people, FAR_OFF):
                for group in no_groups(people):
                    for function in BOTH:
                        refused(self, BadGroup, function, people, k, group)

    def test_nobody_has_but_the_empty_group(self):
        for group in ((0,), (-1,), (1,), (0, 1), (FAR_OFF,), (-FAR_OFF,)):
            for function in BOTH:
                refused(self, BadGroup, function, 0, 1, group)


if __name__ == "__main__":
    unittest.main()
