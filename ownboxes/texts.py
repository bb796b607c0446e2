"""Texts: orders and plans, as they are written and read."""

from ownboxes.errors import BadOpenings, BadOrder, BadText
from ownboxes.following import made_openings
from ownboxes.orders import order_by, rings_of
from ownboxes.plans import made_plan, openings_of_a_plan

MOST_FIGURES = 90


def numbers_text(numbers):
    return " ".join([str(number) for number in numbers])


# The length goes ahead of int, which may refuse very many figures on its own.
def read_number(word, row):
    if not word.isdigit() or len(word) > MOST_FIGURES or (word.startswith("0") and word != "0"):
        raise BadText(row)
    return int(word)


def read_numbers(words, row):
    return tuple([read_number(word, row) for word in words])


def ring_text(ring):
    boxes = numbers_text(ring)
    return f"({boxes})"


def order_text(order):
    return "".join([ring_text(ring) for ring in rings_of(order)])


def read_order(text):
    rings = [read_numbers(part.split(" "), 1) for part in text[1:-1].split(")(")]
    try:
        order = order_by(rings)
    except BadOrder:
        raise BadText(1) from None
    # Rings that are told otherwise, and other signs at the ends, show only here.
    if order_text(order) != text:
        raise BadText(1)
    return order


def tree_text(tree):
    if tree is None:
        return "-"
    box = tree[0]
    nexts = " ".join([tree_text(coming) for coming in tree[1]])
    return f"{box}({nexts})"


def plan_text(openings, plan):
    numbers = numbers_text(made_openings(len(plan), openings))
    rows = [f"openings {numbers}"]
    for person, tree in enumerate(plan):
        way = tree_text(tree)
        rows.append(f"person {person} {way}")
    return "\n".join(rows)


def read_openings(text):
    words = text.split(" ")
    if words[0] != "openings":
        raise BadText(1)
    numbers = read_numbers(words[1:], 1)
    try:
        return openings_of_a_plan(numbers)
    except BadOpenings:
        raise BadText(1) from None


def behind_sign(text, sign, row):
    if not text.startswith(sign):
        raise BadText(row)
    return text[len(sign):]


# begun tells of each tree that is not at its end yet, the outer ones first, its box and its nexts
# so far: a list in the place of a recursion, so that brackets may stand as deep as they like.
def read_tree(text, people, row):
    begun = []
    rest = text
    while True:
        while not rest.startswith("-"):
            parts = rest.partition("(")
            begun.append((read_number(parts[0], row), []))
            rest = parts[2]
        rest = behind_sign(rest, "-", row)
        tree = None
        # A tree that is the last one of nexts ends the one around it, too.
        while len(begun) > 0 and len(begun[-1][1]) == people - 1:
            rest = behind_sign(rest, ")", row)
            around = begun.pop()
            tree = (around[0], tuple(around[1] + [tree]))
        if len(begun) == 0:
            if rest != "":
                raise BadText(row)
            return tree
        rest = behind_sign(rest, " ", row)
        begun[-1][1].append(tree)


def read_person(text, person, people):
    row = person + 2
    return read_tree(behind_sign(text, f"person {person} ", row), people, row)


def read_plan(text):
    rows = text.split("\n")
    openings = read_openings(rows[0])
    people = len(openings)
    trees = [read_person(row, person, people) for person, row in enumerate(rows[1:people + 1])]
    if len(rows) != people + 1:
        # The first row that lacks, or the first one too many.
        raise BadText(min(len(rows), people + 1) + 1)
    return (openings, made_plan(openings, trees))
