"""Groups: by how many orders all of some people find, or none of them does."""

from ownboxes.counting import many_finding
from ownboxes.errors import BadGroup


def check_group(people, group):
    least = 0
    for person in group:
        if not least <= person < people:
            raise BadGroup("a group is a rising tuple of unlike people")
        least = person + 1


# In how many ways so many of the people stand one behind another.
def many_rows(people, size):
    ways = 1
    for taken in range(size):
        ways *= people - taken
    return ways


# many[count] tells how many orders mark just so many people. All have as many openings, so each
# group of one size is marked whole in as many orders as another one: these are counted together,
# order by order, and shared out.
def many_with_group(many, size):
    whole = sum([orders * many_rows(count, size) for count, orders in enumerate(many)])
    return whole // many_rows(len(many) - 1, size)


def many_all_of(people, k, group):
    finding = many_finding(people, k)
    check_group(people, group)
    return many_with_group(finding, len(group))


def many_none_of(people, k, group):
    finding = many_finding(people, k)
    check_group(people, group)
    missing = list(reversed(finding))
    return many_with_group(missing, len(group))
