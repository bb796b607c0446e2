"""Plans: for each person a tree of boxes that goes by the names found so far."""

from ownboxes.errors import BadOpenings, BadOrder, BadPlan
from ownboxes.following import check_person, made_openings
from ownboxes.orders import many_orders

MOST_IN_A_PLAN = 6


def openings_of_a_plan(openings):
    if len(openings) > MOST_IN_A_PLAN:
        raise BadOpenings("plans are for 1 to 6 people")
    return made_openings(len(openings), openings)


# boxes are those on the way down to here; names are the own one and those by which the way came down.
def made_tree(tree, people, left, boxes, names):
    if tree is None:
        return None
    box = tree[0]
    nexts = tree[1]
    # This goes first: it also bounds how deep a tree is looked at.
    if left == 0:
        raise BadPlan("a way down a tree has more boxes than there are openings")
    if not 0 <= box < people:
        raise BadPlan("a tree has a box that is not there")
    if box in boxes:
        raise BadPlan("a way down a tree has a box twice")
    if len(nexts) != people:
        raise BadPlan("each box of a tree has a next tree for each person")
    told = []
    for name, coming in enumerate(nexts):
        if coming is not None and name in names:
            raise BadPlan("a tree goes on by the own name, or by a name found before")
        told.append(made_tree(coming, people, left - 1, boxes + [box], names + [name]))
    return (box, tuple(told))


def made_plan(openings, trees):
    numbers = openings_of_a_plan(openings)
    people = len(numbers)
    if len(trees) != people:
        raise BadPlan("a plan has a tree for each person")
    return tuple([made_tree(tree, people, numbers[person], [], [person]) for person, tree in enumerate(trees)])


def check_boxes(plan, order):
    if len(order) != len(plan):
        raise BadOrder("the order has not as many boxes as the plan has trees")


# The tree for the own name is None, so the way ends there too.
def boxes_down(tree, order):
    boxes = []
    rest = tree
    while rest is not None:
        box = rest[0]
        boxes.append(box)
        rest = rest[1][order[box]]
    return boxes


def opened_by(plan, order, person):
    check_boxes(plan, order)
    check_person(len(plan), person)
    return boxes_down(plan[person], order)


def finders_by(plan, order):
    check_boxes(plan, order)
    found = []
    for person, tree in enumerate(plan):
        if person in [order[box] for box in boxes_down(tree, order)]:
            found.append(person)
    return tuple(found)


def all_find_by(plan, order):
    return len(finders_by(plan, order)) == len(plan)


def following_tree(box, people, left, names):
    if left == 0:
        return None
    nexts = [None] * people
    for name in range(people):
        if name not in names:
            nexts[name] = following_tree(name, people, left - 1, names + [name])
    return (box, tuple(nexts))


def following_plan(openings):
    numbers = openings_of_a_plan(openings)
    people = len(numbers)
    return tuple([following_tree(person, people, number, [person]) for person, number in enumerate(numbers)])


def is_full_tree(tree, left, names):
    if tree is None or left == 0:
        return tree is None and left == 0
    return all([
        is_full_tree(coming, left - 1, names + [name])
        for name, coming in enumerate(tree[1]) if name not in names
    ])


def is_full(plan, openings):
    made_openings(len(plan), openings)
    return all([is_full_tree(tree, openings[person], [person]) for person, tree in enumerate(plan)])


# Where the own name lies in the first box, the names of the other closed ones lie in any order;
# no two boxes of a tree have the own name in the same order, so all these add up.
def many_found_down(tree, closed):
    if tree is None:
        return 0
    return many_orders(closed - 1) + sum([many_found_down(coming, closed - 1) for coming in tree[1]])


def finds_in(plan, person):
    check_person(len(plan), person)
    return many_found_down(plan[person], len(plan))
