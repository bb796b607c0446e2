"""A helper's exchanges: the fewest behind which all find by following."""

from ownboxes.errors import BadOpenings, NoHelp
from ownboxes.orders import exchanged, rings_of


def check_help(order, k):
    if not 0 <= k <= len(order):
        raise BadOpenings("openings are from 0 to as many as there are boxes")
    if k == 0:
        raise NoHelp("without openings no exchange helps")


def need_of_rings(order, k):
    return sum([(len(ring) - 1) // k for ring in rings_of(order)])


def need(order, k):
    check_help(order, k)
    return need_of_rings(order, k)


# An exchange of the first box of a ring and the one k places behind it cuts off a ring of the
# k boxes behind the first; the first one then has the rest of the ring behind it.
def exchanges(order, k):
    check_help(order, k)
    pairs = []
    for ring in rings_of(order):
        pairs.extend([(ring[0], ring[place]) for place in range(k, len(ring), k)])
    return pairs


def needs_along(order, k, pairs):
    check_help(order, k)
    needs = [need_of_rings(order, k)]
    now = order
    for one, other in pairs:
        now = exchanged(now, one, other)
        needs.append(need_of_rings(now, k))
    return needs
