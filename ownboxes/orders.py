"""Orders: which name lies in which box, their rings and their numbers."""

from ownboxes.errors import BadBox, BadOrder, NoNumber, TooMany

MOST_PEOPLE = 60


def is_order(names):
    return 1 <= len(names) <= MOST_PEOPLE and sorted(names) == list(range(len(names)))


def made_order(names):
    if not is_order(names):
        raise BadOrder("an order has each of 1 to 60 people just once")
    return tuple(names)


# The ring of a box, told from that box on, be it the least one or not:
# these are also the boxes that a person with that number comes by.
def ring_from(order, box):
    ring = [box]
    while order[ring[-1]] != box:
        ring.append(order[ring[-1]])
    return tuple(ring)


def rings_of(order):
    rings = []
    seen = [False] * len(order)
    for box in range(len(order)):
        if not seen[box]:
            ring = ring_from(order, box)
            rings.append(ring)
            for member in ring:
                seen[member] = True
    return rings


def order_by(rings):
    boxes = []
    for ring in rings:
        if len(ring) == 0:
            raise BadOrder("a ring has one box at least")
        boxes.extend(ring)
    if not is_order(boxes):
        raise BadOrder("rings have each of 1 to 60 boxes just once")
    names = [0] * len(boxes)
    for ring in rings:
        # The place ahead of the first one is -1, the last box: so the ring closes.
        for place in range(len(ring)):
            names[ring[place - 1]] = ring[place]
    return tuple(names)


def check_box(order, box):
    if not 0 <= box < len(order):
        raise BadBox("there is no such box")


def exchanged(order, one, other):
    check_box(order, one)
    check_box(order, other)
    if one == other:
        raise BadBox("an exchange is of two unlike boxes")
    names = list(order)
    names[one] = order[other]
    names[other] = order[one]
    return tuple(names)


def turned_back(order):
    boxes = [0] * len(order)
    for box, name in enumerate(order):
        boxes[name] = box
    return tuple(boxes)


def behind(one, other):
    if len(one) != len(other):
        raise BadOrder("the two orders have not as many boxes")
    return tuple([other[name] for name in one])


def many_orders(people):
    many = 1
    for factor in range(2, people + 1):
        many *= factor
    return many


def order_at(people, number):
    if not 1 <= people <= MOST_PEOPLE:
        raise TooMany("there are 1 to 60 people")
    many = many_orders(people)
    if not 0 <= number < many:
        raise NoNumber("no order has this number")
    left = list(range(people))
    names = []
    rest = number
    while len(left) > 0:
        # Of the orders that begin with the names so far, each further name has as many.
        many //= len(left)
        names.append(left.pop(rest // many))
        rest = rest % many
    return tuple(names)


def order_number(order):
    number = 0
    left = list(range(len(order)))
    for name in order:
        number = number * len(left) + left.index(name)
        left.remove(name)
    return number
