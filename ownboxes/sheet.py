"""Sheets: a question in each row, answered row by row."""

from ownboxes.counting import many_good, share
from ownboxes.errors import BadText, BoxError
from ownboxes.following import finders
from ownboxes.groups import many_all_of
from ownboxes.helper import exchanges, need
from ownboxes.numbering import good_at
from ownboxes.orders import MOST_PEOPLE, rings_of
from ownboxes.texts import numbers_text, order_text, read_numbers, read_order


def text_or_none(text):
    return "none" if text == "" else text


def share_text(openings):
    return " of ".join([str(number) for number in share(openings)])


def pair_text(pair):
    return "-".join([str(box) for box in pair])


def help_text(order, k):
    return text_or_none(" ".join([pair_text(pair) for pair in exchanges(order, k)]))


# A count that is far off would make a tuple too large to hold; one more than there may be is refused just so.
def first_people(count):
    return tuple(range(min(count, MOST_PEOPLE + 1)))


def answer_by_numbers(word, numbers):
    if word == "share":
        return share_text(numbers)
    if word == "good" and len(numbers) == 2:
        return str(many_good(numbers[0], numbers[1]))
    if word == "goodorder" and len(numbers) == 3:
        return order_text(good_at(numbers[0], numbers[1], numbers[2]))
    if word == "group" and len(numbers) == 3:
        return str(many_all_of(numbers[0], numbers[1], first_people(numbers[2])))
    raise BadText(1)


def answer_by_order(word, numbers, order):
    if word == "rings" and len(numbers) == 0:
        return numbers_text([len(ring) for ring in rings_of(order)])
    if word == "find":
        return text_or_none(numbers_text(finders(order, numbers)))
    if word == "need" and len(numbers) == 1:
        return str(need(order, numbers[0]))
    if word == "help" and len(numbers) == 1:
        return help_text(order, numbers[0])
    raise BadText(1)


def answer(row):
    parts = row.partition(" / ")
    words = parts[0].split(" ")
    numbers = read_numbers(words[1:], 1)
    if parts[1] == "":
        return answer_by_numbers(words[0], numbers)
    return answer_by_order(words[0], numbers, read_order(parts[2]))


def answer_or_refusal(row):
    try:
        return answer(row)
    except BoxError:
        return "refused"


def answered(sheet):
    return "\n".join([answer_or_refusal(row) for row in sheet.split("\n")])
