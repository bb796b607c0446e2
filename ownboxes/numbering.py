"""Good orders by number: they stand in a row by their rings, shorter ones first."""

from ownboxes.counting import check_people_and_k, many_by_lengths
from ownboxes.errors import NoNumber, TooMany
from ownboxes.orders import order_by, rings_of


# How many rings of so many boxes the least box of those that are left can have.
def many_first_rings(boxes, length):
    ways = 1
    for taken in range(1, length):
        ways *= boxes - taken
    return ways


# many[count] tells how many good orders of so many boxes there are.
def many_with_first_ring(many, boxes, length):
    return many_first_rings(boxes, length) * many[boxes - length]


# Of the rings of one length from the least box left, which rise as tuples, the one at a place.
def ring_at(left, length, place):
    ring = [left[0]]
    others = left[1:]
    ways = many_first_rings(len(left), length)
    rest = place
    while len(ring) < length:
        # So many rings begin alike up to the next box.
        ways //= len(others)
        ring.append(others.pop(rest // ways))
        rest = rest % ways
    return tuple(ring)


def ring_place(left, ring):
    place = 0
    others = left[1:]
    for box in ring[1:]:
        place = place * len(others) + others.index(box)
        others.remove(box)
    return place


def good_at(people, k, number):
    if people == 0:
        raise TooMany("there are 1 to 60 people")
    check_people_and_k(people, k)
    many = many_by_lengths(people, 1, k)
    if not 0 <= number < many[people]:
        raise NoNumber("no good order has this number")
    rings = []
    left = list(range(people))
    rest = number
    while len(left) > 0:
        length = 1
        while rest >= many_with_first_ring(many, len(left), length):
            rest -= many_with_first_ring(many, len(left), length)
            length += 1
        later = many[len(left) - length]
        ring = ring_at(left, length, rest // later)
        rings.append(ring)
        left = [box for box in left if box not in ring]
        rest = rest % later
    return order_by(rings)


def good_number(order, k):
    check_people_and_k(len(order), k)
    many = many_by_lengths(len(order), 1, k)
    number = 0
    left = list(range(len(order)))
    for ring in rings_of(order):
        if len(ring) > k:
            raise NoNumber("the order is not good")
        for length in range(1, len(ring)):
            number += many_with_first_ring(many, len(left), length)
        number += ring_place(left, ring) * many[len(left) - len(ring)]
        left = [box for box in left if box not in ring]
    return number
