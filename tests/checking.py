"""What several test files need: refusals of just one class, all orders gone through, plans and texts of every kind."""

from itertools import permutations, product

from ownboxes.errors import BadText

FAR_OFF = 10 ** 89
# A number as texts have it, to be found in them.
NUMBER = "(?:0|[1-9][0-9]{0,89})"


def refused(test, error, function, *things):
    with test.assertRaises(ValueError) as caught:
        function(*things)
    test.assertIs(type(caught.exception), error, (function.__name__, things))


def refused_at_row(test, row, function, text):
    with test.assertRaises(ValueError) as caught:
        function(text)
    test.assertIs(type(caught.exception), BadText, (function.__name__, text))
    test.assertEqual(caught.exception.row, row, (function.__name__, text))


def all_orders(people):
    return list(permutations(range(people)))


def lot_order(lot, people):
    names = list(range(people))
    lot.shuffle(names)
    return tuple(names)


def walked(order, person, most):
    """The boxes opened by following, and whether the own name was found, step by step."""
    boxes = []
    box = person
    while len(boxes) < most:
        boxes.append(box)
        if order[box] == person:
            return boxes, True
        box = order[box]
    return boxes, False


def who_find(order, openings):
    return tuple(p for p in range(len(order)) if walked(order, p, openings[p])[1])


def rings_walked(order):
    """The rings, found without the program."""
    left = set(range(len(order)))
    rings = []
    while left:
        ring = []
        box = min(left)
        while box in left:
            left.discard(box)
            ring.append(box)
            box = order[box]
        rings.append(tuple(ring))
    return rings


def ring_lengths(order):
    return [len(ring) for ring in rings_walked(order)]


def order_written(order):
    """The text of an order, made without the program."""
    return "".join("(" + " ".join(map(str, ring)) + ")" for ring in rings_walked(order))


def edits(text, signs):
    """The text with one sign left out, put in, or changed for another one, at each place."""
    for place in range(len(text) + 1):
        for sign in signs:
            yield text[:place] + sign + text[place:]
            yield text[:place] + sign + text[place + 1:]
        yield text[:place] + text[place + 1:]


def place_in_row(order):
    """What the good orders are compared by."""
    return [(len(ring), ring) for ring in rings_walked(order)]


def good_row(people, k):
    """The good orders, each at the place of its number."""
    return sorted([order for order in all_orders(people) if max(ring_lengths(order)) <= k], key=place_in_row)


def walked_down(tree, order, person):
    """The boxes opened down a tree, and whether the own name was found, step by step."""
    boxes = []
    while tree is not None:
        box, nexts = tree
        boxes.append(box)
        if order[box] == person:
            return boxes, True
        tree = nexts[order[box]]
    return boxes, False


def all_openings(people):
    return list(product(range(people + 1), repeat=people))


def lot_openings(lot, people):
    return tuple(lot.randint(0, people) for person in range(people))


def no_openings_beside(people):
    """What are no openings beside an order or a plan of so many people."""
    yield ()
    yield (1,) * (people - 1)
    yield (1,) * (people + 1)
    yield (1,) * 61
    for wrong in (-1, people + 1, FAR_OFF, -FAR_OFF):
        for place in range(people):
            yield with_place((1,) * people, place, wrong)


def lot_tree(lot, people, left, cut, boxes, names):
    if left == 0 or lot.random() < cut:
        return None
    box = lot.choice([box for box in range(people) if box not in boxes])
    nexts = [None] * people
    for name in range(people):
        if name not in names:
            nexts[name] = lot_tree(lot, people, left - 1, cut, boxes + [box], names + [name])
    return (box, tuple(nexts))


def lot_plan(lot, openings, cut):
    """Some plan for these openings; with a cut of 0 it is full, the greater it is the more ways end early."""
    return tuple(
        lot_tree(lot, len(openings), number, cut, [], [person]) for person, number in enumerate(openings)
    )


def all_trees(people, left, boxes, names):
    yield None
    if left == 0:
        return
    for box in range(people):
        if box not in boxes:
            choices = [
                [None] if name in names else list(all_trees(people, left - 1, boxes + [box], names + [name]))
                for name in range(people)
            ]
            for nexts in product(*choices):
                yield (box, nexts)


def all_plans(openings):
    people = len(openings)
    return product(*[list(all_trees(people, number, [], [p])) for p, number in enumerate(openings)])


def plans_of_one_and_two():
    """All openings of 1 and 2 people, each with all plans for them."""
    for openings in all_openings(1) + all_openings(2):
        for plan in all_plans(openings):
            yield openings, plan


def ways_to_boxes(tree, way=()):
    """For each box of a tree the names that lead down to it."""
    if tree is None:
        return []
    ways = [way]
    for name, coming in enumerate(tree[1]):
        ways.extend(ways_to_boxes(coming, way + (name,)))
    return ways


def part_at(tree, way):
    for name in way:
        tree = tree[1][name]
    return tree


def with_part(tree, way, part):
    """The tree with another part where the names of the way lead."""
    if not way:
        return part
    nexts = list(tree[1])
    nexts[way[0]] = with_part(nexts[way[0]], way[1:], part)
    return (tree[0], tuple(nexts))


def with_place(whole, place, part):
    return whole[:place] + (part,) + whole[place + 1:]
