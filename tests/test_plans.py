import unittest
from math import factorial
from random import Random

from checking import (
    FAR_OFF, all_openings, all_orders, all_trees, lot_openings, lot_order, lot_plan, no_openings_beside,
    part_at, plans_of_one_and_two, refused, walked, walked_down, ways_to_boxes, with_part, with_place,
)
from ownboxes.errors import BadOpenings, BadOrder, BadPlan, NoPerson
from ownboxes.plans import all_find_by, finders_by, finds_in, following_plan, is_full, made_plan, opened_by

CUTS = (0, 0.2, 0.6)


def some_plans():
    """Openings with plans for them: all for 1 and 2 people, many for 3 to 5."""
    yield from plans_of_one_and_two()
    lot = Random(17)
    for people, turns in ((3, 40), (4, 20), (5, 6)):
        for turn in range(turns):
            openings = lot_openings(lot, people)
            for cut in CUTS:
                yield openings, lot_plan(lot, openings, cut)
        yield (people,) * people, lot_plan(lot, (people,) * people, 0)


def no_openings():
    """What are no openings of 1 to 6 people."""
    yield ()
    yield (1,) * 7
    yield (0,) * 7
    yield (1,) * 60
    yield (1,) * 61
    for people in range(1, 7):
        for wrong in (-1, people + 1, FAR_OFF, -FAR_OFF):
            for place in range(people):
                yield with_place((1,) * people, place, wrong)


def leaf(box, people):
    return (box, (None,) * people)


class MadePlan(unittest.TestCase):
    def test_plans_of_every_kind_are_told_as_they_are(self):
        for openings, plan in some_plans():
            for numbers in (openings, list(openings)):
                for trees in (plan, list(plan)):
                    told = made_plan(numbers, trees)
                    self.assertEqual(told, plan)
                    self.assertIs(type(told), tuple)

    def test_one_to_six_people(self):
        lot = Random(6)
        for people in range(1, 7):
            for number in range(people + 1):
                for cut in CUTS:
                    plan = lot_plan(lot, (number,) * people, cut)
                    self.assertEqual(made_plan([number] * people, list(plan)), plan)
            self.assertEqual(made_plan([people] * people, [None] * people), (None,) * people)

    def test_ways_that_end_early(self):
        tree = (2, (None, (0, (None, None, (1, (None,) * 3))), None))
        self.assertEqual(made_plan((3, 0, 1), [tree, None, leaf(0, 3)]), (tree, None, leaf(0, 3)))

    def test_the_same_box_on_two_ways(self):
        tree = (1, (None, leaf(0, 3), leaf(0, 3)))
        self.assertEqual(made_plan((2, 0, 0), [tree, None, None]), (tree, None, None))

    def test_what_is_handed_in_is_neither_changed_nor_kept(self):
        openings = [2, 1]
        tree = (1, (None, leaf(0, 2)))
        trees = [tree, None]
        told = made_plan(openings, trees)
        self.assertEqual((openings, trees), ([2, 1], [tree, None]))
        trees[0] = None
        trees.append(None)
        openings[0] = 0
        self.assertEqual(told, (tree, None))
        self.assertIs(is_full(told, (2, 0)), True)

    def test_bad_openings_go_first(self):
        for openings in no_openings():
            people = len(openings)
            for trees in ([None] * people, [], [None] * (people + 1), [leaf(FAR_OFF, people)] * people):
                for numbers in (openings, list(openings)):
                    refused(self, BadOpenings, made_plan, numbers, trees)
                    refused(self, BadOpenings, made_plan, numbers, tuple(trees))

    def test_too_few_openings_for_the_trees(self):
        refused(self, BadOpenings, made_plan, (2,), [leaf(0, 2), leaf(1, 2)])
        refused(self, BadOpenings, made_plan, (), [None])


class NoPlan(unittest.TestCase):
    def refused_at(self, openings, plan, person, tree):
        refused(self, BadPlan, made_plan, openings, with_place(plan, person, tree))
        refused(self, BadPlan, made_plan, list(openings), list(with_place(plan, person, tree)))

    def parts(self):
        """Each box of some plans: openings, plan, person, the names that lead down, and the part there."""
        lot = Random(18)
        for people, turns in ((1, 1), (2, 4), (3, 6), (4, 2), (6, 1)):
            for turn in range(turns):
                openings = lot_openings(lot, people) if turn else (people,) * people
                for cut in (0, 0.4):
                    plan = lot_plan(lot, openings, cut)
                    for person, tree in enumerate(plan):
                        ways = ways_to_boxes(tree)
                        for way in lot.sample(ways, min(len(ways), 25)):
                            yield openings, plan, person, way, part_at(tree, way)

    def test_a_tree_too_few_or_too_many(self):
        for people in range(1, 7):
            openings = (people,) * people
            plan = following_plan(openings)
            refused(self, BadPlan, made_plan, openings, [])
            refused(self, BadPlan, made_plan, openings, plan[:-1])
            refused(self, BadPlan, made_plan, openings, list(plan) + [None])
            refused(self, BadPlan, made_plan, openings, plan + plan[-1:])
            refused(self, BadPlan, made_plan, openings, [None] * (people + 1))
        refused(self, BadPlan, made_plan, (1, 1), [None] * 7)

    def test_a_box_that_is_not_there(self):
        for openings, plan, person, way, part in self.parts():
            for box in (-1, -len(plan), len(plan), FAR_OFF, -FAR_OFF):
                self.refused_at(openings, plan, person, with_part(plan[person], way, (box, part[1])))

    def test_a_box_twice_on_one_way(self):
        for openings, plan, person, way, part in self.parts():
            for steps in range(len(way)):
                box = part_at(plan[person], way[:steps])[0]
                self.refused_at(openings, plan, person, with_part(plan[person], way, leaf(box, len(plan))))

    def test_a_tree_for_the_own_name_or_one_found_before(self):
        for openings, plan, person, way, part in self.parts():
            before = [part_at(plan[person], way[:steps])[0] for steps in range(len(way) + 1)]
            fresh = [box for box in range(len(plan)) if box not in before]
            for name in (person,) + way:
                for box in fresh:
                    nexts = with_place(part[1], name, leaf(box, len(plan)))
                    self.refused_at(openings, plan, person, with_part(plan[person], way, (part[0], nexts)))

    def test_just_the_names_are_wrong(self):
        self.refused_at((3, 3, 3), (None,) * 3, 1, (0, (None, leaf(1, 3), None)))
        self.refused_at((3, 3, 3), (None,) * 3, 1, (0, ((1, (leaf(2, 3), None, None)), None, None)))
        self.refused_at((3, 3, 3), (None,) * 3, 1, (0, ((1, (None, leaf(2, 3), None)), None, None)))
        made_plan((3, 3, 3), (None, (0, ((1, (None, None, leaf(2, 3))), None, None)), None))

    def test_too_few_or_too_many_nexts(self):
        for openings, plan, person, way, part in self.parts():
            for nexts in ((), part[1][:-1], part[1] + (None,), part[1] * 2):
                self.refused_at(openings, plan, person, with_part(plan[person], way, (part[0], nexts)))

    def test_a_way_of_more_boxes_than_the_openings(self):
        for openings, plan, person, way, part in self.parts():
            fewer = with_place(openings, person, len(way))
            refused(self, BadPlan, made_plan, fewer, plan)
            cut = with_part(plan[person], way, None)
            deepest = max([len(down) + 1 for down in ways_to_boxes(cut)], default=0)
            made_plan(with_place(openings, person, deepest), with_place(plan, person, cut))

    def test_a_tree_for_openings_of_nought(self):
        for people in range(1, 7):
            for person in range(people):
                self.refused_at((0,) * people, (None,) * people, person, leaf(person, people))

    def test_a_tree_far_too_deep(self):
        for box in (0, 1):
            tree = None
            for step in range(3000):
                tree = ((step + box) % 2, (None, tree))
            self.refused_at((2, 2), (None, None), 0, tree)


class ByAPlan(unittest.TestCase):
    def test_as_walked_down_the_trees(self):
        for openings, plan in some_plans():
            for order in all_orders(len(plan)):
                found = []
                for person, tree in enumerate(plan):
                    boxes, finds = walked_down(tree, order, person)
                    told = opened_by(plan, order, person)
                    self.assertEqual(told, boxes)
                    self.assertIs(type(told), list)
                    if finds:
                        found.append(person)
                self.assertEqual(finders_by(plan, order), tuple(found))
                self.assertIs(all_find_by(plan, order), len(found) == len(plan))

    def test_plain_cases(self):
        plan = ((1, (None, (0, (None,) * 3), None)), None, (0, (leaf(2, 3), None, None)))
        self.assertEqual(opened_by(plan, (0, 1, 2), 0), [1, 0])
        self.assertEqual(opened_by(plan, (1, 0, 2), 0), [1])
        self.assertEqual(opened_by(plan, (1, 2, 0), 0), [1])
        self.assertEqual(opened_by(plan, (0, 1, 2), 1), [])
        self.assertEqual(opened_by(plan, (0, 1, 2), 2), [0, 2])
        self.assertEqual(finders_by(plan, (0, 1, 2)), (0, 2))
        self.assertEqual(finders_by((None,), (0,)), ())
        self.assertIs(type(finders_by(plan, (0, 1, 2))), tuple)
        self.assertIs(all_find_by((leaf(0, 1),), (0,)), True)

    def test_what_is_told_is_the_askers_own(self):
        plan = following_plan((2, 2))
        first = opened_by(plan, (1, 0), 0)
        first.append(9)
        self.assertEqual(opened_by(plan, (1, 0), 0), [0, 1])
        self.assertIsNot(opened_by(plan, (1, 0), 0), opened_by(plan, (1, 0), 0))

    def test_bad_order_goes_before_no_person(self):
        for people in range(1, 7):
            plan = following_plan((1,) * people)
            for boxes in {1, people - 1, people + 1, 7, 60} - {0, people}:
                order = tuple(range(boxes))
                refused(self, BadOrder, finders_by, plan, order)
                refused(self, BadOrder, all_find_by, plan, order)
                for person in (0, people - 1, -1, people, boxes, FAR_OFF):
                    refused(self, BadOrder, opened_by, plan, order, person)

    def test_no_person(self):
        for people in range(1, 7):
            plan = following_plan((1,) * people)
            for person in (-1, -people, people, people + 1, FAR_OFF, -FAR_OFF):
                refused(self, NoPerson, opened_by, plan, tuple(range(people)), person)
                refused(self, NoPerson, finds_in, plan, person)


class FollowingPlan(unittest.TestCase):
    def openings(self):
        for people in (1, 2, 3):
            yield from all_openings(people)
        lot = Random(19)
        for people, turns in ((4, 30), (5, 5)):
            for number in range(people + 1):
                yield (number,) * people
            for turn in range(turns):
                yield lot_openings(lot, people)

    def follows(self, openings, plan, order):
        for person, number in enumerate(openings):
            boxes, found = walked(order, person, number)
            self.assertEqual(opened_by(plan, order, person), boxes)
            self.assertEqual(person in finders_by(plan, order), found)

    def test_each_opens_and_finds_as_by_following(self):
        for openings in self.openings():
            plan = following_plan(openings)
            self.assertIs(type(plan), tuple)
            self.assertEqual(made_plan(openings, plan), plan)
            self.assertIs(is_full(plan, openings), True)
            for order in all_orders(len(openings)):
                self.follows(openings, plan, order)

    def test_six_people(self):
        lot = Random(20)
        for openings in [(number,) * 6 for number in range(7)] + [lot_openings(lot, 6) for turn in range(6)]:
            plan = following_plan(openings)
            self.assertEqual(made_plan(openings, plan), plan)
            self.assertIs(is_full(plan, openings), True)
            for turn in range(40):
                self.follows(openings, plan, lot_order(lot, 6))

    def test_plain_cases(self):
        self.assertEqual(following_plan((0,)), (None,))
        self.assertEqual(following_plan((1,)), ((0, (None,)),))
        self.assertEqual(following_plan((2, 1)), ((0, (None, leaf(1, 2))), leaf(1, 2)))
        self.assertEqual(following_plan((0, 0, 2)), (None, None, (2, (leaf(0, 3), leaf(1, 3), None))))
        self.assertEqual(following_plan([2, 1]), following_plan((2, 1)))

    def test_bad_openings(self):
        for openings in no_openings():
            refused(self, BadOpenings, following_plan, openings)


class Full(unittest.TestCase):
    def is_full_by_all_orders(self, plan, openings):
        for order in all_orders(len(plan)):
            for person, tree in enumerate(plan):
                boxes, found = walked_down(tree, order, person)
                if len(boxes) > openings[person] or not found and len(boxes) < openings[person]:
                    return False
        return True

    def test_against_all_orders(self):
        for openings, plan in some_plans():
            self.assertIs(is_full(plan, openings), self.is_full_by_all_orders(plan, openings))

    def test_other_openings_than_those_that_it_was_made_for(self):
        lot = Random(21)
        for people in (1, 2, 3):
            for openings in all_openings(people):
                plans = [lot_plan(lot, openings, cut) for cut in CUTS]
                for other in all_openings(people):
                    self.assertIs(is_full(plans[0], other), openings == other)
                    for plan in plans:
                        self.assertIs(is_full(plan, other), self.is_full_by_all_orders(plan, other))

    def test_one_way_cut(self):
        lot = Random(22)
        for people in (1, 2, 3, 4):
            for number in range(1, people + 1):
                openings = (number,) * people
                plan = lot_plan(lot, openings, 0)
                self.assertIs(is_full(plan, openings), True)
                for person, tree in enumerate(plan):
                    for way in ways_to_boxes(tree):
                        cut = with_place(plan, person, with_part(tree, way, None))
                        self.assertIs(is_full(cut, openings), False)

    def test_openings_of_nought(self):
        self.assertIs(is_full((None, None), (0, 0)), True)
        self.assertIs(is_full((None, None), (0, 1)), False)
        self.assertIs(is_full((leaf(0, 1),), (0,)), False)

    def test_bad_openings(self):
        for people in range(1, 7):
            for openings in no_openings_beside(people):
                refused(self, BadOpenings, is_full, following_plan((1,) * people), openings)


class FindsIn(unittest.TestCase):
    def many(self, tree, people, person):
        return sum(walked_down(tree, order, person)[1] for order in all_orders(people))

    def test_all_trees_of_up_to_three_people(self):
        for people in (1, 2, 3):
            for person in range(people):
                for number in range(people + 1):
                    for tree in all_trees(people, number, [], [person]):
                        told = finds_in(with_place((None,) * people, person, tree), person)
                        self.assertEqual(told, self.many(tree, people, person))
                        self.assertLessEqual(told, number * factorial(people - 1))

    def test_against_all_orders(self):
        lot = Random(23)
        for people, turns in ((4, 12), (5, 5)):
            for turn in range(turns):
                openings = lot_openings(lot, people)
                for cut in CUTS:
                    plan = lot_plan(lot, openings, cut)
                    for person, tree in enumerate(plan):
                        told = finds_in(plan, person)
                        self.assertEqual(told, self.many(tree, people, person))
                        self.assertLessEqual(told, openings[person] * factorial(people - 1))

    def test_a_full_plan(self):
        lot = Random(24)
        for people in range(1, 7):
            for number in range(people + 1):
                openings = (number,) * people
                for plan in (following_plan(openings), lot_plan(lot, openings, 0)):
                    for person in range(people):
                        self.assertEqual(finds_in(plan, person), number * factorial(people - 1))

    def test_it_hangs_on_its_tree_alone(self):
        tree = following_plan((2, 2, 2))[1]
        self.assertEqual(finds_in((None, tree, None), 1), 4)
        self.assertEqual(finds_in((leaf(0, 3), tree, leaf(0, 3)), 1), 4)
        self.assertEqual(finds_in((None, tree, None), 0), 0)


if __name__ == "__main__":
    unittest.main()
