import unittest
from random import Random

from checking import FAR_OFF, all_orders, good_row, lot_order, place_in_row, refused, ring_lengths, rings_walked
from ownboxes.counting import many_good
from ownboxes.errors import BadOpenings, NoNumber, TooMany
from ownboxes.numbering import good_at, good_number


def some_numbers(people, k):
    many = many_good(people, k)
    lot = Random(people * 100 + k)
    between = [many // 2, many // 3, many * 7 // 9] + [lot.randrange(many) for turn in range(6)]
    return [number for number in sorted({0, 1, many - 2, many - 1, *between}) if 0 <= number < many]


class AllOrders(unittest.TestCase):
    def test_the_row_from_nought_on(self):
        for people in range(1, 7):
            for k in range(people + 2):
                row = good_row(people, k)
                self.assertEqual(many_good(people, k), len(row))
                self.assertEqual([good_at(people, k, number) for number in range(len(row))], row)
                self.assertEqual([good_number(order, k) for order in row], list(range(len(row))))
                refused(self, NoNumber, good_at, people, k, len(row))

    def test_plain_cases(self):
        self.assertEqual([good_at(3, 2, number) for number in range(4)], [(0, 1, 2), (0, 2, 1), (1, 0, 2), (2, 1, 0)])
        self.assertEqual(good_at(3, 3, 4), (1, 2, 0))
        self.assertEqual(good_at(3, 3, 5), (2, 0, 1))
        self.assertEqual(good_at(1, 1, 0), (0,))
        self.assertEqual(good_number((3, 0, 2, 1), 3), 16)
        self.assertIs(type(good_at(3, 2, 1)), tuple)

    def test_more_openings_than_boxes(self):
        for k in (4, 5, 61, FAR_OFF):
            self.assertEqual([good_at(4, k, number) for number in range(24)], [good_at(4, 4, n) for n in range(24)])
            self.assertEqual(good_number((1, 2, 3, 0), k), good_number((1, 2, 3, 0), 4))


class ManyPeople(unittest.TestCase):
    def test_there_and_back(self):
        for people in (13, 20, 60):
            for k in (1, 2, 3, people // 2, people - 1, people, people + 1, FAR_OFF):
                before = None
                for number in some_numbers(people, k):
                    order = good_at(people, k, number)
                    self.assertEqual(sorted(order), list(range(people)))
                    self.assertLessEqual(max(ring_lengths(order)), k)
                    self.assertEqual(good_number(order, k), number)
                    self.assertTrue(before is None or before < place_in_row(order))
                    before = place_in_row(order)

    def test_back_and_there(self):
        lot = Random(16)
        for people in (7, 13, 20, 60):
            for turn in range(20):
                order = lot_order(lot, people)
                longest = max(ring_lengths(order))
                for k in (longest, longest + 1, people):
                    self.assertEqual(good_at(people, k, good_number(order, k)), order)

    def test_first_and_last(self):
        for people in (13, 20, 60):
            plain = tuple(range(people))
            for k in (1, 2, people):
                self.assertEqual(good_at(people, k, 0), plain)
                self.assertEqual(good_number(plain, k), 0)
            last = good_at(people, people, many_good(people, people) - 1)
            self.assertEqual(rings_walked(last), [(0,) + tuple(range(people - 1, 0, -1))])


class Refusals(unittest.TestCase):
    def test_too_many_goes_first(self):
        for people in (0, -1, 61, FAR_OFF, -FAR_OFF):
            for k in (1, 0, -1, -FAR_OFF, 5):
                for number in (0, -1, FAR_OFF):
                    refused(self, TooMany, good_at, people, k, number)

    def test_bad_openings_go_before_no_number(self):
        for people in (1, 5, 60):
            for k in (-1, -FAR_OFF):
                for number in (0, -1, FAR_OFF):
                    refused(self, BadOpenings, good_at, people, k, number)

    def test_no_number(self):
        for people in (1, 2, 5, 13, 60):
            for k in (0, 1, 2, people, people + 1, FAR_OFF):
                many = many_good(people, k)
                for number in (-1, -many - 1, many, many + 1, -FAR_OFF, FAR_OFF):
                    refused(self, NoNumber, good_at, people, k, number)
            refused(self, NoNumber, good_at, people, 0, 0)

    def test_number_of_an_order_that_is_not_good(self):
        for people in range(1, 6):
            for order in all_orders(people):
                longest = max(ring_lengths(order))
                for k in range(longest):
                    refused(self, NoNumber, good_number, order, k)
                for k in (-1, -people, -FAR_OFF):
                    refused(self, BadOpenings, good_number, order, k)
        turned = tuple(range(1, 60)) + (0,)
        refused(self, NoNumber, good_number, turned, 59)
        refused(self, NoNumber, good_number, turned, 0)
        refused(self, BadOpenings, good_number, turned, -1)

    def test_a_long_ring_behind_short_ones(self):
        refused(self, NoNumber, good_number, (0, 1, 3, 4, 2), 2)
        refused(self, NoNumber, good_number, (1, 0, 2, 4, 5, 3), 2)


if __name__ == "__main__":
    unittest.main()
