"""The open game: boxes once opened stay so for all, and each plan writes each order anew."""

from ownboxes.following import made_openings
from ownboxes.orders import order_by
from ownboxes.plans import check_boxes


def check_game(plan, openings, order):
    made_openings(len(plan), openings)
    check_boxes(plan, order)


# seen tells for each box the name in it, None for a closed one; it goes on from turn to turn.
# name_in tells the name in a closed box, which may hang on the name that this turn found before it.
def one_turn(tree, person, seen, name_in):
    boxes = []
    last = person
    rest = tree
    while person not in seen:
        box = seen.index(None) if rest is None else rest[0]
        if seen[box] is None:
            boxes.append(box)
            last = name_in(box, last)
            seen[box] = last
        if rest is not None:
            rest = rest[1][seen[box]]
    return (person, tuple(boxes))


# The turns, and the names in the boxes, which are all seen by the end.
def played(plan, openings, name_in):
    seen = [None] * len(plan)
    done = []
    for person in sorted(range(len(plan)), key=lambda one: (openings[one], one)):
        if person not in seen:
            done.append(one_turn(plan[person], person, seen, name_in))
    return (done, seen)


def turns(plan, openings, order):
    check_game(plan, openings, order)
    return played(plan, openings, lambda box, last: order[box])[0]


def won(plan, openings, order):
    return all([len(boxes) <= openings[person] for person, boxes in turns(plan, openings, order)])


def written(plan, openings, order):
    rings = []
    for person, boxes in turns(plan, openings, order):
        # The last name is the person's own, with which the ring begins.
        rings.append([person] + [order[box] for box in boxes[:-1]])
    return order_by(rings)


# The ring that a turn writes tells which name it found next: so the game is played
# without the order, and the names are laid into the boxes as they are opened.
def unwritten(plan, openings, order):
    check_game(plan, openings, order)
    return tuple(played(plan, openings, lambda box, last: order[last])[1])
