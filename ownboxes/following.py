"""Following: each opens the box with its own number, then those that the names lead to."""

from ownboxes.errors import BadOpenings, NoPerson
from ownboxes.orders import MOST_PEOPLE, ring_from, rings_of


def made_openings(people, numbers):
    if not 1 <= people <= MOST_PEOPLE:
        raise BadOpenings("openings are for 1 to 60 people")
    if len(numbers) != people:
        raise BadOpenings("each person has its openings")
    if min(numbers) < 0 or max(numbers) > people:
        raise BadOpenings("openings are from 0 to as many as there are boxes")
    return tuple(numbers)


def check_person(people, person):
    if not 0 <= person < people:
        raise NoPerson("there is no such person")


def opened(order, openings, person):
    made_openings(len(order), openings)
    check_person(len(order), person)
    return list(ring_from(order, person)[:openings[person]])


def finds(order, openings, person):
    return person in [order[box] for box in opened(order, openings, person)]


def finders(order, openings):
    made_openings(len(order), openings)
    found = []
    for ring in rings_of(order):
        found.extend([person for person in ring if openings[person] >= len(ring)])
    return tuple(sorted(found))


def short_ring(order, openings):
    made_openings(len(order), openings)
    for ring in rings_of(order):
        if len(ring) > min([openings[person] for person in ring]):
            return ring
    return None


def all_find(order, openings):
    return short_ring(order, openings) is None
