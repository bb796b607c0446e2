"""How many orders there are: good ones, by who finds, by rings, and of any openings."""

from ownboxes.errors import BadOpenings, TooMany
from ownboxes.following import made_openings
from ownboxes.orders import MOST_PEOPLE, many_orders


def check_people(people):
    if not 0 <= people <= MOST_PEOPLE:
        raise TooMany("there are 0 to 60 people")


def check_people_and_k(people, k):
    check_people(people)
    if k < 0:
        raise BadOpenings("openings are not below nought")


# For each number of people from 0 on: how many orders have rings
# of no fewer boxes than least and no more than most.
def many_by_lengths(people, least, most):
    many = [1]
    for count in range(1, people + 1):
        total = 0
        # So many ways has the ring of the first box to go on with `length - 1` of the others.
        ways = 1
        for length in range(1, min(most, count) + 1):
            if length >= least:
                total += ways * many[count - length]
            ways *= count - length
        many.append(total)
    return many


def many_good(people, k):
    check_people_and_k(people, k)
    return many_by_lengths(people, 1, k)[people]


def many_finding(people, k):
    check_people_and_k(people, k)
    finding = many_by_lengths(people, 1, k)
    missing = many_by_lengths(people, k + 1, people)
    told = []
    chosen = 1
    for count in range(people + 1):
        told.append(chosen * finding[count] * missing[people - count])
        chosen = chosen * (people - count) // (count + 1)
    return told


def many_with_rings(people):
    check_people(people)
    many = [1]
    for before in range(people):
        # One box more is a ring of its own, or comes behind one of those before it.
        alone = [0] + many
        within = [before * ways for ways in many] + [0]
        many = [one + other for one, other in zip(alone, within)]
    return many


def many_with_longest(people):
    check_people(people)
    told = []
    shorter = 0
    for longest in range(people + 1):
        good = many_good(people, longest)
        told.append(good - shorter)
        shorter = good
    return told


# The people go by rising openings, so the first one of a ring bounds it for all in it.
# It leaves places of its ring for people that come later. many[places] tells in how many
# ways so many places can be left; this tells the same behind one more person.
def many_behind_person(many, openings):
    later = [0] * len(many)
    for places, ways in enumerate(many):
        if places > 0:
            later[places - 1] += places * ways
        for left in range(places, min(places + openings, len(many))):
            later[left] += ways
    return later


def many_all(openings):
    people = len(openings)
    made_openings(people, openings)
    many = [1] + [0] * people
    for number in sorted(openings):
        many = many_behind_person(many, number)
    return many[0]


def greatest_divisor(one, other):
    while other > 0:
        rest = one % other
        one = other
        other = rest
    return one


def share(openings):
    finding = many_all(openings)
    whole = many_orders(len(openings))
    divisor = greatest_divisor(whole, finding)
    return (finding // divisor, whole // divisor)
