import unittest
from random import Random

from checking import (
    FAR_OFF, all_openings, all_orders, good_row, lot_openings, lot_order, no_openings_beside, refused, ring_lengths,
    walked, with_place,
)
from ownboxes.counting import many_all, many_good
from ownboxes.dealings import dealing_at, dealing_number, finders_as, opened_as, plain_dealing
from ownboxes.errors import BadOpenings, BadOrder, NoNumber, NoPerson
from ownboxes.numbering import good_at, good_number


def walked_as(order, dealing, person, most):
    """The boxes opened by a dealing, and whether the own name was found, step by step."""
    boxes = []
    box = dealing[person]
    while len(boxes) < most:
        boxes.append(box)
        if order[box] == person:
            return boxes, True
        box = dealing[order[box]]
    return boxes, False


def come_behind(order, dealing):
    return tuple(dealing[name] for name in order)


def cases():
    """Orders with dealings and openings: all of up to 4 people but for some openings of 4, many of up to 60."""
    lot = Random(27)
    some_of_four = [(k,) * 4 for k in range(5)] + [(0, 1, 2, 3), (4, 3, 2, 1), (0, 4, 1, 2), (2, 3, 0, 0)]
    for people in (1, 2, 3, 4):
        for order in all_orders(people):
            for dealing in all_orders(people):
                for openings in all_openings(people) if people < 4 else some_of_four:
                    yield order, dealing, openings
    for people in (5, 6, 17, 59, 60):
        for turn in range(25):
            order, dealing = lot_order(lot, people), lot_order(lot, people)
            yield order, dealing, lot_openings(lot, people)
            yield order, dealing, (turn * people // 24,) * people


def no_dealings(people):
    """Tuples that have not as many places as so many boxes, whatever they tell."""
    yield ()
    for places in {1, people - 1, people + 1, 60, 61, 200} - {0, people}:
        yield tuple(range(places))
        yield (0,) * places
        yield (-1,) * places
        yield (FAR_OFF,) * places
        yield with_place(tuple(range(places)), places - 1, -FAR_OFF)


class Walks(unittest.TestCase):
    def test_opened_as_walked(self):
        for order, dealing, openings in cases():
            for person in range(len(order)):
                told = opened_as(order, dealing, openings, person)
                self.assertEqual(told, walked_as(order, dealing, person, openings[person])[0])
                self.assertIs(type(told), list)

    def test_finders_as_walked(self):
        for order, dealing, openings in cases():
            found = [p for p in range(len(order)) if walked_as(order, dealing, p, openings[p])[1]]
            self.assertEqual(finders_as(order, dealing, openings), tuple(found))

    def test_each_follows_from_the_number_dealt_to_it(self):
        for order, dealing, openings in cases():
            both = come_behind(order, dealing)
            found = finders_as(order, dealing, openings)
            for person, number in enumerate(dealing):
                boxes, finds = walked(both, number, openings[person])
                self.assertEqual(person in found, finds)
                self.assertEqual(opened_as(order, dealing, openings, person), boxes)

    def test_plain_case(self):
        order, dealing = (1, 2, 0), (2, 1, 0)
        self.assertEqual(opened_as(order, dealing, (3, 3, 3), 0), [2])
        self.assertEqual(opened_as(order, dealing, (3, 3, 3), 1), [1, 0])
        self.assertEqual(opened_as(order, dealing, (3, 3, 3), 2), [0, 1])
        self.assertEqual(opened_as(order, dealing, (3, 0, 1), 1), [])
        self.assertEqual(finders_as(order, dealing, (1, 1, 2)), (0, 2))
        self.assertIs(type(finders_as(order, dealing, (0, 0, 0))), tuple)
        self.assertEqual(finders_as(order, dealing, (0, 0, 0)), ())

    def test_what_is_told_is_the_askers_own(self):
        first = opened_as((1, 2, 0), (2, 1, 0), (3, 3, 3), 1)
        first.append(9)
        self.assertEqual(opened_as((1, 2, 0), (2, 1, 0), (3, 3, 3), 1), [1, 0])

    def test_as_many_dealings_as_orders_let_all_find(self):
        lot = Random(28)
        cards = [(people, order, openings) for people in (1, 2, 3)
                 for order in all_orders(people) for openings in all_openings(people)]
        cards += [(4, lot_order(lot, 4), openings) for openings in all_openings(4) if min(openings) > 0]
        cards += [(5, lot_order(lot, 5), lot_openings(lot, 5)) for turn in range(30)]
        for people, order, openings in cards:
            finding = [d for d in all_orders(people) if len(finders_as(order, d, openings)) == people]
            self.assertEqual(len(finding), many_all(openings))


class PlainDealing(unittest.TestCase):
    def orders(self):
        lot = Random(29)
        for people in range(1, 6):
            yield from all_orders(people)
        for people in (20, 60):
            for turn in range(5):
                yield lot_order(lot, people)

    def test_each_finds_with_its_first_box(self):
        for order in self.orders():
            people = len(order)
            dealing = plain_dealing(order)
            self.assertIs(type(dealing), tuple)
            self.assertEqual(finders_as(order, dealing, (1,) * people), tuple(range(people)))
            for person in range(people):
                openings = with_place((people,) * people, person, 0)
                boxes = opened_as(order, dealing, (people,) * people, person)
                self.assertEqual([order[box] for box in boxes], [person])
                self.assertEqual(opened_as(order, dealing, openings, person), [])
                self.assertEqual(finders_as(order, dealing, openings), tuple(p for p in range(people) if p != person))
            self.assertEqual(finders_as(order, dealing, (0,) * people), ())

    def test_it_is_the_first_of_all(self):
        for order in self.orders():
            self.assertEqual(dealing_at(order, 1, 0), plain_dealing(order))
            self.assertEqual(dealing_number(order, 1, plain_dealing(order)), 0)


class Numbered(unittest.TestCase):
    def test_the_row_from_nought_on(self):
        lot = Random(30)
        for people in range(1, 6):
            orders = all_orders(people)
            for k in range(people + 2):
                row = good_row(people, k)
                for order in orders if people < 5 else lot.sample(orders, 8):
                    told = [dealing_at(order, k, number) for number in range(len(row))]
                    self.assertEqual([come_behind(order, dealing) for dealing in told], row)
                    self.assertEqual([dealing_number(order, k, dealing) for dealing in told], list(range(len(row))))
                    refused(self, NoNumber, dealing_at, order, k, len(row))

    def test_they_are_those_by_which_all_find(self):
        lot = Random(31)
        for people in range(1, 6):
            for k in range(people + 1):
                order = lot_order(lot, people)
                told = [dealing_at(order, k, number) for number in range(many_good(people, k))]
                finding = [d for d in all_orders(people) if len(finders_as(order, d, (k,) * people)) == people]
                self.assertEqual(sorted(told), finding)

    def test_there_and_back_of_many_people(self):
        lot = Random(32)
        for people in (20, 60):
            for k in (1, 2, people // 2, people - 1, people, people + 1, FAR_OFF):
                many = many_good(people, k)
                for number in {0, many - 1, many // 2, lot.randrange(many), lot.randrange(many)}:
                    order = lot_order(lot, people)
                    dealing = dealing_at(order, k, number)
                    self.assertIs(type(dealing), tuple)
                    self.assertEqual(sorted(dealing), list(range(people)))
                    self.assertEqual(come_behind(order, dealing), good_at(people, k, number))
                    self.assertEqual(dealing_number(order, k, dealing), number)

    def test_back_and_there_of_many_people(self):
        lot = Random(33)
        for people in (20, 60):
            for turn in range(10):
                order, dealing = lot_order(lot, people), lot_order(lot, people)
                for k in (max(ring_lengths(come_behind(order, dealing))), people):
                    number = dealing_number(order, k, dealing)
                    self.assertEqual(number, good_number(come_behind(order, dealing), k))
                    self.assertEqual(dealing_at(order, k, number), dealing)


class Refusals(unittest.TestCase):
    def test_a_dealing_of_other_places_goes_first(self):
        for people in (1, 2, 5, 60):
            order = tuple(range(1, people)) + (0,)
            for dealing in no_dealings(people):
                for openings in ((1,) * people, (), (1,) * (people + 1), (-1,) * people):
                    refused(self, BadOrder, finders_as, order, dealing, openings)
                    for person in (0, -1, people, FAR_OFF):
                        refused(self, BadOrder, opened_as, order, dealing, openings, person)
                for k in (people, 0, -1, -FAR_OFF):
                    refused(self, BadOrder, dealing_number, order, k, dealing)

    def test_bad_openings_go_before_no_person(self):
        for people in (1, 2, 5, 60):
            order = dealing = tuple(range(people))
            for openings in no_openings_beside(people):
                refused(self, BadOpenings, finders_as, order, dealing, openings)
                for person in (0, people - 1, -1, people, FAR_OFF):
                    refused(self, BadOpenings, opened_as, order, dealing, openings, person)

    def test_no_person(self):
        for people in (1, 2, 5, 60):
            order = dealing = tuple(range(people))
            for person in (-1, -people, people, people + 1, FAR_OFF, -FAR_OFF):
                for k in (0, 1, people):
                    refused(self, NoPerson, opened_as, order, dealing, (k,) * people, person)

    def test_bad_openings_go_before_no_number(self):
        for people in (1, 2, 5, 60):
            order = tuple(range(1, people)) + (0,)
            for k in (-1, -people, -FAR_OFF):
                for number in (0, -1, FAR_OFF):
                    refused(self, BadOpenings, dealing_at, order, k, number)
                refused(self, BadOpenings, dealing_number, order, k, order)

    def test_no_number(self):
        for people in (1, 2, 5, 60):
            order = tuple(range(1, people)) + (0,)
            for k in (0, 1, 2, people, people + 1, FAR_OFF):
                many = many_good(people, k)
                for number in (-1, -many - 1, many, many + 1, FAR_OFF, -FAR_OFF):
                    refused(self, NoNumber, dealing_at, order, k, number)
            refused(self, NoNumber, dealing_at, order, 0, 0)

    def test_a_dealing_by_which_a_ring_is_too_long(self):
        for people in range(1, 5):
            for order in all_orders(people):
                for dealing in all_orders(people):
                    for k in range(max(ring_lengths(come_behind(order, dealing)))):
                        refused(self, NoNumber, dealing_number, order, k, dealing)
        turned = tuple(range(1, 60)) + (0,)
        refused(self, NoNumber, dealing_number, turned, 59, tuple(range(60)))
        refused(self, NoNumber, dealing_number, tuple(range(60)), 59, turned)


if __name__ == "__main__":
    unittest.main()
