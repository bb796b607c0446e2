import unittest
from random import Random

from checking import (
    all_openings, all_orders, lot_openings, lot_order, lot_plan, no_openings_beside, plans_of_one_and_two, refused,
    walked_down, who_find,
)
from ownboxes.counting import many_all
from ownboxes.errors import BadOpenings, BadOrder
from ownboxes.opengame import turns, unwritten, won, written
from ownboxes.plans import following_plan


def games():
    """Openings with plans for them: all for 1 and 2 people, many for 3 to 5."""
    yield from plans_of_one_and_two()
    lot = Random(25)
    chosen = all_openings(3) + [lot_openings(lot, 4) for turn in range(25)] + [(number,) * 4 for number in range(5)]
    chosen += [lot_openings(lot, 5) for turn in range(7)] + [(number,) * 5 for number in (2, 3, 5)]
    for openings in chosen:
        yield openings, following_plan(openings)
        yield openings, (None,) * len(openings)
        for cut in (0, 0.2, 0.5):
            yield openings, lot_plan(lot, openings, cut)


def game_played(plan, openings, order):
    """The open game, step by step: the turns, each with the names found in its boxes."""
    people = len(plan)
    opened = []
    told = []
    for number in range(people + 1):
        for person in [person for person in range(people) if openings[person] == number]:
            if person in [order[box] for box in opened]:
                continue
            boxes = []
            tree = plan[person]
            while tree is not None and person not in [order[box] for box in opened]:
                if tree[0] not in opened:
                    opened.append(tree[0])
                    boxes.append(tree[0])
                tree = tree[1][order[tree[0]]]
            for box in range(people):
                if box not in opened and person not in [order[known] for known in opened]:
                    opened.append(box)
                    boxes.append(box)
            told.append((person, tuple(boxes), [order[box] for box in boxes]))
    return told


def order_from(played):
    coming = {}
    for person, boxes, names in played:
        before = person
        for name in names:
            coming[before] = name
            before = name
    return tuple(coming[box] for box in range(len(coming)))


class Turns(unittest.TestCase):
    def test_as_played(self):
        for openings, plan in games():
            for order in all_orders(len(plan)):
                played = game_played(plan, openings, order)
                told = turns(plan, openings, order)
                self.assertEqual(told, [(person, boxes) for person, boxes, names in played])
                self.assertIs(type(told), list)
                self.assertTrue(all(len(boxes) >= 1 for person, boxes in told))
                self.assertIs(won(plan, openings, order), all(len(b) <= openings[p] for p, b in told))
                self.assertEqual(written(plan, openings, order), order_from(played))

    def test_rising_openings_and_the_lesser_number_first(self):
        self.assertEqual(turns(following_plan((2, 1, 1)), (2, 1, 1), (0, 1, 2)), [(1, (1,)), (2, (2,)), (0, (0,))])
        self.assertEqual(turns(following_plan((3, 2, 1)), (3, 2, 1), (0, 1, 2)), [(2, (2,)), (1, (1,)), (0, (0,))])

    def test_whoever_is_seen_does_not_go(self):
        self.assertEqual(turns(following_plan((2, 2)), (2, 2), (1, 0)), [(0, (0, 1))])

    def test_open_boxes_are_looked_into_for_nothing(self):
        plan = ((2, (None,) * 3), (2, ((0, (None,) * 3), None, None)), None)
        self.assertEqual(turns(plan, (1, 2, 0), (1, 2, 0)), [(2, (0, 1)), (0, (2,))])
        plan = ((2, (None,) * 3), (2, ((1, (None,) * 3), None, None)), None)
        self.assertEqual(turns(plan, (1, 2, 3), (2, 1, 0)), [(0, (2,)), (1, (1,)), (2, (0,))])
        self.assertIs(won(plan, (1, 2, 3), (2, 1, 0)), True)

    def test_where_the_tree_is_none_the_least_closed_box_again_and_again(self):
        self.assertEqual(turns((None,) * 4, (1,) * 4, (3, 1, 2, 0)), [(0, (0, 1, 2, 3))])
        self.assertEqual(turns((None,) * 4, (1,) * 4, (1, 0, 3, 2)), [(0, (0, 1)), (2, (2, 3))])
        plan = ((2, (None,) * 4), None, None, None)
        self.assertEqual(turns(plan, (1, 1, 1, 1), (1, 3, 2, 0)), [(0, (2, 0, 1, 3))])
        self.assertIs(won(plan, (1, 1, 1, 1), (1, 3, 2, 0)), False)

    def test_one_person(self):
        for plan, openings in (((None,), (0,)), ((None,), (1,)), (((0, (None,)),), (1,))):
            self.assertEqual(turns(plan, openings, (0,)), [(0, (0,))])
            self.assertIs(won(plan, openings, (0,)), openings == (1,))
            self.assertEqual(written(plan, openings, (0,)), (0,))
            self.assertEqual(unwritten(plan, openings, (0,)), (0,))

    def test_what_is_told_is_the_askers_own(self):
        plan = following_plan((1, 2))
        first = turns(plan, (1, 2), (0, 1))
        first.append("more")
        first[0] = "other"
        self.assertEqual(turns(plan, (1, 2), (0, 1)), [(0, (0,)), (1, (1,))])
        self.assertIsNot(turns(plan, (1, 2), (0, 1)), turns(plan, (1, 2), (0, 1)))


class Written(unittest.TestCase):
    def test_one_to_one_and_back(self):
        for openings, plan in games():
            orders = all_orders(len(plan))
            told = [written(plan, openings, order) for order in orders]
            self.assertEqual(sorted(told), orders)
            for order, new in zip(orders, told):
                self.assertIs(type(new), tuple)
                self.assertEqual(unwritten(plan, openings, new), order)
                self.assertEqual(written(plan, openings, unwritten(plan, openings, order)), order)
            self.assertIs(type(unwritten(plan, openings, orders[0])), tuple)

    def test_won_just_where_all_find_by_following_what_is_written(self):
        for openings, plan in games():
            people = len(plan)
            many = 0
            for order in all_orders(people):
                is_won = won(plan, openings, order)
                many += is_won
                self.assertEqual(is_won, len(who_find(written(plan, openings, order), openings)) == people)
                if all(walked_down(tree, order, person)[1] for person, tree in enumerate(plan)):
                    self.assertIs(is_won, True)
                for person, boxes in turns(plan, openings, order):
                    self.assertEqual(openings[person], min(openings[order[box]] for box in boxes))
            self.assertEqual(many, many_all(openings))

    def test_six_people_for_some(self):
        lot = Random(26)
        for turn in range(12):
            openings = lot_openings(lot, 6)
            plan = lot_plan(lot, openings, (0, 0.2, 0.5)[turn % 3])
            for again in range(20):
                order = lot_order(lot, 6)
                new = written(plan, openings, order)
                self.assertEqual(new, order_from(game_played(plan, openings, order)))
                self.assertEqual(unwritten(plan, openings, new), order)
                self.assertEqual(written(plan, openings, unwritten(plan, openings, order)), order)

    def test_by_following_alike_the_order_is_written_as_it_is(self):
        for people in range(1, 6):
            openings = (people,) * people
            plan = following_plan(openings)
            for order in all_orders(people):
                self.assertEqual(written(plan, openings, order), order)
                self.assertEqual(unwritten(plan, openings, order), order)

    def test_plain_case(self):
        plan = ((2, (None,) * 3), None, None)
        self.assertEqual(turns(plan, (1, 1, 1), (1, 0, 2)), [(0, (2, 0, 1))])
        self.assertEqual(written(plan, (1, 1, 1), (1, 0, 2)), (2, 0, 1))
        self.assertEqual(unwritten(plan, (1, 1, 1), (2, 0, 1)), (1, 0, 2))


class Refusals(unittest.TestCase):
    def test_bad_openings_go_first(self):
        for people in range(1, 7):
            plan = following_plan((1,) * people)
            for openings in no_openings_beside(people):
                for boxes in {1, people, people + 1, 60}:
                    for function in (turns, won, written, unwritten):
                        refused(self, BadOpenings, function, plan, openings, tuple(range(boxes)))

    def test_bad_order(self):
        for people in range(1, 7):
            plan = following_plan((1,) * people)
            for boxes in {1, people - 1, people + 1, 7, 60} - {0, people}:
                for function in (turns, won, written, unwritten):
                    refused(self, BadOrder, function, plan, (1,) * people, tuple(range(boxes)))


if __name__ == "__main__":
    unittest.main()
