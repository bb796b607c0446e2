"""What several test files need: refusals of just one class, and all orders gone through."""

from itertools import permutations

FAR_OFF = 10 ** 89


def refused(test, error, function, *things):
    with test.assertRaises(ValueError) as caught:
        function(*things)
    test.assertIs(type(caught.exception), error, (function.__name__, things))


def all_orders(people):
    return list(permutations(range(people)))


def walked(order, person, most):
    """The boxes opened by following, and whether the own name was found, step by step."""
    boxes = []
    box = person
    while len(boxes) < most:
        boxes.append(box)
        if order[box] == person:
            return boxes, True
        box = order[box]
    return boxes, False


def who_find(order, openings):
    return tuple(p for p in range(len(order)) if walked(order, p, openings[p])[1])


def ring_lengths(order):
    """The boxes of each ring, found without the program."""
    left = set(range(len(order)))
    lengths = []
    while left:
        box = min(left)
        count = 0
        while box in left:
            left.discard(box)
            count += 1
            box = order[box]
        lengths.append(count)
    return lengths
