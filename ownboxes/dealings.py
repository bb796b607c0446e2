"""Names dealt anew: each goes as if it had the number that the dealing tells for it."""

from ownboxes.following import check_person, made_openings
from ownboxes.numbering import good_at, good_number
from ownboxes.orders import behind, ring_from, turned_back


def opened_as(order, dealing, openings, person):
    dealt = behind(order, dealing)
    made_openings(len(order), openings)
    check_person(len(order), person)
    return list(ring_from(dealt, dealing[person])[:openings[person]])


def finders_as(order, dealing, openings):
    dealt = behind(order, dealing)
    made_openings(len(order), openings)
    found = []
    for person, number in enumerate(dealing):
        if openings[person] >= len(ring_from(dealt, number)):
            found.append(person)
    return tuple(found)


def plain_dealing(order):
    return turned_back(order)


# With the order ahead of it, the order turned back leads each box to itself: so the good order is left.
def dealing_at(order, k, number):
    return behind(turned_back(order), good_at(len(order), k, number))


def dealing_number(order, k, dealing):
    return good_number(behind(order, dealing), k)
