import unittest
from collections import Counter
from itertools import combinations_with_replacement, product
from math import comb, factorial, gcd, perm
from random import Random

from checking import FAR_OFF, all_orders, refused, ring_lengths, walked, who_find
from ownboxes.counting import many_all, many_finding, many_good, many_with_longest, many_with_rings, share
from ownboxes.errors import BadOpenings, TooMany
from ownboxes.following import finds

# How many orders of so many people have no ring of more than two boxes.
PAIRED = [1, 1]
while len(PAIRED) <= 60:
    PAIRED.append(PAIRED[-1] + (len(PAIRED) - 1) * PAIRED[-2])


def counted_all(openings):
    return sum(len(who_find(order, openings)) == len(openings) for order in all_orders(len(openings)))


def counted_falling(openings):
    """People by falling openings: each stays free, or makes a ring with some who are free."""
    free = {0: 1}
    for number in sorted(openings, reverse=True):
        later = Counter()
        for count, ways in free.items():
            later[count + 1] += ways
            for others in range(min(number, count + 1)):
                later[count - others] += ways * perm(count, others)
        free = later
    return free[0]


class Alike(unittest.TestCase):
    def test_against_all_orders(self):
        for people in range(7):
            lengths = [ring_lengths(order) for order in all_orders(people)]
            for k in list(range(people + 3)) + [FAR_OFF]:
                good = sum(all(length <= k for length in rings) for rings in lengths)
                self.assertEqual(many_good(people, k), good)
                finding = Counter(sum(length for length in rings if length <= k) for rings in lengths)
                self.assertEqual(many_finding(people, k), [finding[m] for m in range(people + 1)])

    def test_rings_and_longest_against_all_orders(self):
        for people in range(7):
            lengths = [ring_lengths(order) for order in all_orders(people)]
            rings = Counter(len(one) for one in lengths)
            longest = Counter(max(one, default=0) for one in lengths)
            self.assertEqual(many_with_rings(people), [rings[m] for m in range(people + 1)])
            self.assertEqual(many_with_longest(people), [longest[m] for m in range(people + 1)])

    def test_nobody(self):
        for k in (0, 1, 5, FAR_OFF):
            self.assertEqual(many_good(0, k), 1)
            self.assertEqual(many_finding(0, k), [1])
        self.assertEqual(many_with_rings(0), [1])
        self.assertEqual(many_with_longest(0), [1])

    def test_no_openings(self):
        for people in range(1, 61):
            self.assertEqual(many_good(people, 0), 0)
            self.assertEqual(many_finding(people, 0), [factorial(people)] + [0] * people)

    def test_k_far_above_the_people(self):
        for people in (1, 5, 60):
            for k in (people, people + 1, 10 * people, FAR_OFF):
                self.assertEqual(many_good(people, k), factorial(people))
                self.assertEqual(many_finding(people, k), [0] * people + [factorial(people)])

    def test_sixty_with_half_or_more(self):
        for k in range(30, 61):
            longer = [factorial(60) // length for length in range(k + 1, 61)]
            self.assertEqual(many_good(60, k), factorial(60) - sum(longer))
            if k > 30:
                self.assertEqual(many_with_longest(60)[k], factorial(60) // k)

    def test_sixty_with_few(self):
        self.assertEqual(many_good(60, 1), 1)
        self.assertEqual(many_good(60, 2), PAIRED[60])
        apart = [1, 0]
        for people in range(2, 61):
            apart.append((people - 1) * (apart[-1] + apart[-2]))
        self.assertEqual(many_finding(60, 1), [comb(60, m) * apart[60 - m] for m in range(61)])

    def test_sixty_lists_sum_to_all_orders(self):
        for k in (1, 2, 7, 29, 30, 59):
            told = many_finding(60, k)
            self.assertEqual((len(told), sum(told)), (61, factorial(60)))
            self.assertEqual(told[60], many_good(60, k))
            # All the people who find, over all orders: each in k times 59!.
            self.assertEqual(sum(m * many for m, many in enumerate(told)), 60 * k * factorial(59))
        self.assertEqual((len(many_with_longest(60)), sum(many_with_longest(60))), (61, factorial(60)))

    def test_sixty_rings_by_their_product(self):
        told = many_with_rings(60)
        self.assertEqual(len(told), 61)
        for x in (1, 2, 3, 10):
            rising = 1
            for step in range(60):
                rising *= x + step
            self.assertEqual(sum(many * x ** m for m, many in enumerate(told)), rising)
        self.assertEqual((told[0], told[1], told[59], told[60]), (0, factorial(59), 1770, 1))

    def test_lists_are_the_askers_own(self):
        for ask in (lambda: many_finding(4, 2), lambda: many_with_rings(4), lambda: many_with_longest(4)):
            first = ask()
            kept = list(first)
            self.assertIs(type(first), list)
            first[0] = "other"
            first.append("more")
            self.assertEqual(ask(), kept)
            self.assertIsNot(ask(), ask())

    def test_too_many_goes_first(self):
        for people in (-1, 61, FAR_OFF, -FAR_OFF):
            for k in (0, 3, -1, FAR_OFF, -FAR_OFF):
                refused(self, TooMany, many_good, people, k)
                refused(self, TooMany, many_finding, people, k)
            refused(self, TooMany, many_with_rings, people)
            refused(self, TooMany, many_with_longest, people)

    def test_k_below_nought(self):
        for people in (0, 1, 5, 60):
            for k in (-1, -2, -FAR_OFF):
                refused(self, BadOpenings, many_good, people, k)
                refused(self, BadOpenings, many_finding, people, k)


class AnyOpenings(unittest.TestCase):
    def check(self, openings, many):
        self.assertEqual(many_all(openings), many, openings)
        whole = factorial(len(openings))
        divisor = gcd(many, whole)
        told = share(openings)
        self.assertEqual(told, (many // divisor, whole // divisor), openings)
        self.assertIs(type(told), tuple)

    def test_all_openings_of_up_to_four(self):
        for people in range(1, 5):
            for openings in product(range(people + 1), repeat=people):
                self.check(openings, counted_all(openings))

    def test_openings_of_five_and_six_in_any_order(self):
        lot = Random(4)
        rising = list(combinations_with_replacement(range(6), 5))
        rising += lot.sample(list(combinations_with_replacement(range(1, 7), 6)), 80)
        for openings in rising:
            mixed = list(openings)
            lot.shuffle(mixed)
            many = counted_all(mixed)
            for one in (openings, tuple(mixed), openings[::-1]):
                self.check(one, many)

    def test_alike_as_good(self):
        for people in (1, 2, 9, 60):
            for k in range(people + 1):
                self.check((k,) * people, many_good(people, k))

    def test_sixty_with_one_unlike(self):
        for number in (0, 1, 17, 59, 60):
            for place in (0, 31, 59):
                openings = (60,) * place + (number,) + (60,) * (59 - place)
                self.check(openings, number * factorial(59))

    def test_sixty_half_with_two(self):
        many = sum(comb(30, x) ** 2 * factorial(x) * PAIRED[30 - x] * factorial(30 - x) for x in range(31))
        openings = [2] * 30 + [60] * 30
        lot = Random(8)
        for turn in range(5):
            self.check(tuple(openings), many)
            lot.shuffle(openings)

    def test_sixty_half_with_one(self):
        self.check((1, 60) * 30, factorial(30))
        self.check((60, 1) * 30, factorial(30))

    def test_sixty_all_unlike_in_any_order(self):
        lot = Random(5)
        for openings in (list(range(1, 61)), list(range(31, 61)) * 2, [lot.randint(1, 60) for turn in range(60)]):
            many = counted_falling(openings)
            for turn in range(5):
                self.check(tuple(openings), many)
                lot.shuffle(openings)

    def test_nought_and_whole(self):
        for people in (1, 2, 60):
            self.assertEqual(share((0,) * people), (0, 1))
            self.assertEqual(share((people,) * people), (1, 1))
        self.assertEqual(share((1, 1)), (1, 2))
        self.assertEqual(share((2, 2, 2, 2)), (5, 12))

    def test_what_are_no_openings(self):
        for openings in ((), (1,) * 61, (61,) * 61, (-1,), (2,), (0, 3), (3, 0), (1, -1), (FAR_OFF,), (1, -FAR_OFF),
                         (60,) * 59 + (61,), (-1,) + (60,) * 59):
            refused(self, BadOpenings, many_all, openings)
            refused(self, BadOpenings, share, openings)

    def test_each_person_finds_in_its_openings_times(self):
        for people in range(1, 6):
            orders = all_orders(people)
            for number in range(people + 1):
                for person in range(people):
                    openings = tuple(number if p == person else (p + number) % (people + 1) for p in range(people))
                    found = sum(finds(order, openings, person) for order in orders)
                    self.assertEqual(found, number * factorial(people - 1))
                    self.assertEqual(found, sum(walked(order, person, number)[1] for order in orders))


if __name__ == "__main__":
    unittest.main()
