import re
import unittest
from math import factorial
from random import Random

from checking import (
    FAR_OFF, NUMBER, all_openings, all_orders, edits, good_row, lot_openings, lot_order, order_written, ring_lengths,
    who_find,
)
from ownboxes.counting import many_all, many_good, share
from ownboxes.groups import many_all_of
from ownboxes.helper import exchanges, need
from ownboxes.numbering import good_at
from ownboxes.sheet import answered

SIXTY = tuple(range(1, 60)) + (0,)
ROWS = (
    "rings / (0 3 1)(2)", "find 3 2 1 4 / (0 3 1)(2)", "share 2 2 2 2", "good 4 2", "goodorder 4 2 9",
    "need 2 / (0 1 2 3)", "help 2 / (0 1 2 3)", "group 4 2 3",
)
ANSWERS = ("3 1", "0 2 3", "5 of 12", "10", "(0 3)(1 2)", "1", "0-2", "10")


def some_orders():
    """All orders of up to 4 people, some of up to 60."""
    lot = Random(33)
    for people in range(1, 5):
        yield from all_orders(people)
    for people in (5, 10, 17, 59, 60):
        yield tuple(range(people))
        yield tuple(range(1, people)) + (0,)
        for turn in range(5):
            yield lot_order(lot, people)


def spaced(*words):
    return " ".join(map(str, words))


class Asked(unittest.TestCase):
    def told(self, row, answer):
        told = answered(row)
        self.assertIs(type(told), str)
        self.assertEqual(told, answer, row)

    def refused(self, row):
        self.told(row, "refused")


class Rows(Asked):
    def test_each_kind(self):
        for row, answer in zip(ROWS, ANSWERS):
            self.told(row, answer)

    def test_rings(self):
        for order in some_orders():
            self.told(f"rings / {order_written(order)}", spaced(*ring_lengths(order)))

    def test_find(self):
        lot = Random(34)
        for order in some_orders():
            people = len(order)
            chosen = all_openings(people) if people < 4 else [lot_openings(lot, people), (people // 2,) * people]
            for openings in chosen:
                found = who_find(order, openings)
                self.told(f"find {spaced(*openings)} / {order_written(order)}", spaced(*found) if found else "none")
            self.told(f"find {spaced(*[0] * people)} / {order_written(order)}", "none")
            self.told(f"find {spaced(*[people] * people)} / {order_written(order)}", spaced(*range(people)))

    def test_share(self):
        lot = Random(35)
        chosen = all_openings(1) + all_openings(2) + all_openings(3) + [lot_openings(lot, 60) for turn in range(10)]
        for openings in chosen + [(30,) * 60, (60,) * 60, tuple(range(1, 61)), tuple(range(60))]:
            finding, whole = share(openings)
            self.told(f"share {spaced(*openings)}", f"{finding} of {whole}")
            self.assertEqual(finding * factorial(len(openings)), many_all(openings) * whole)
        self.told("share 0", "0 of 1")
        self.told("share 1", "1 of 1")
        self.told("share 1 0 2", "0 of 1")
        self.told("share 1 1", "1 of 2")

    def test_good(self):
        for people in (0, 1, 2, 5, 30, 60):
            for k in (0, 1, 2, 5, 30, 59, 60, 61, FAR_OFF):
                self.told(f"good {people} {k}", str(many_good(people, k)))
        self.told("good 0 0", "1")
        self.told("good 5 0", "0")
        self.told("good 60 60", str(factorial(60)))
        self.told("good 60 " + "9" * 90, str(factorial(60)))

    def test_goodorder(self):
        for people in range(1, 5):
            for k in range(people + 2):
                row = good_row(people, k)
                for number, order in enumerate(row):
                    self.told(f"goodorder {people} {k} {number}", order_written(order))
                self.refused(f"goodorder {people} {k} {len(row)}")
        for people, k in ((20, 3), (60, 1), (60, 30), (60, 60), (60, FAR_OFF)):
            many = many_good(people, k)
            for number in {0, many // 3, many - 1}:
                self.told(f"goodorder {people} {k} {number}", order_written(good_at(people, k, number)))
            self.refused(f"goodorder {people} {k} {many}")

    def test_need_and_help(self):
        for order in some_orders():
            people = len(order)
            text = order_written(order)
            for k in sorted({1, 2, people // 2, people - 1, people} & set(range(1, people + 1))):
                self.told(f"need {k} / {text}", str(need(order, k)))
                pairs = [f"{one}-{other}" for one, other in exchanges(order, k)]
                self.told(f"help {k} / {text}", spaced(*pairs) if pairs else "none")
                self.assertEqual(len(pairs), sum((length - 1) // k for length in ring_lengths(order)))
            self.told(f"need {people} / {text}", "0")
            self.told(f"help {people} / {text}", "none")

    def test_the_told_exchanges_make_the_order_good(self):
        for order in some_orders():
            for k in sorted({1, 2, 3, 30} & set(range(1, len(order) + 1))):
                names = list(order)
                told = answered(f"help {k} / {order_written(order)}")
                for pair in [] if told == "none" else told.split(" "):
                    one, other = map(int, pair.split("-"))
                    self.assertLess(one, other)
                    names[one], names[other] = names[other], names[one]
                self.assertLessEqual(max(ring_lengths(names)), k)

    def test_group(self):
        for people in range(5):
            for k in range(people + 2):
                found = [who_find(order, (k,) * people) for order in all_orders(people)]
                for count in range(people + 1):
                    many = sum(one[:count] == tuple(range(count)) for one in found)
                    self.told(f"group {people} {k} {count}", str(many))
        for k in (0, 1, 30, 60, FAR_OFF):
            for count in (0, 1, 2, 30, 59, 60):
                self.told(f"group 60 {k} {count}", str(many_all_of(60, k, tuple(range(count)))))
        self.told("group 60 30 0", str(factorial(60)))
        self.told("group 0 0 0", "1")


class Refused(Asked):
    def test_no_row_of_these(self):
        for row in ("", " ", "  ", "/", " / ", " / (0)", "refused", "none", "ring / (0)", "ringss / (0)", "Rings / (0)",
                    "RINGS / (0)", "finds 1 / (0)", "shares 1", "goods 1 1", "good_order 1 1 0", "needs 1 / (0)",
                    "helps 1 / (0)", "groups 1 1 1", "(0)", "1", "1 1", "rings(0)", "# good 4 2", "good", "goodorder",
                    "group", "share", "need", "help", "find", "rings", "good4 2", "share1"):
            self.refused(row)

    def test_blanks(self):
        for row in ROWS:
            for place, sign in enumerate(row):
                if sign == " ":
                    self.refused(row[:place] + row[place + 1:])
                    self.refused(row[:place] + "  " + row[place + 1:])
                    self.refused(row[:place] + "\t" + row[place + 1:])
            for other in (" " + row, row + " ", "  " + row, row + "  ", "\t" + row, row + "\t"):
                self.refused(other)

    def test_slashes(self):
        for row in ROWS:
            if "/" in row:
                for other in ("", " ", "/", "//", " /", "/ ", " // ", "  / ", " /  ", " / / ", " - ", " , "):
                    self.refused(row.replace(" / ", other))
                self.refused(row + " / (0)")
                self.refused(row + " / " + row.split(" / ")[1])
                self.refused(row + " /")
                self.refused(row + " / ")
                self.refused("/ " + row)
                self.refused(" / " + row)
                self.refused(row.split(" / ")[0])
                self.refused(row.split(" / ")[0] + " / ")
            else:
                for other in (row + " / (0)", row + " / (0)(1)(2)(3)", row + " /", row + " / ", "/ " + row):
                    self.refused(other)
                self.refused(row.replace(" ", " / ", 1))

    def test_numbers_that_are_not_so_written(self):
        for row in ROWS:
            head, slash, order = row.partition(" / ")
            words = head.split(" ")
            for place in range(1, len(words)):
                plain = words[place]
                for number in ("", "0" + plain, "00", "-" + plain, "-0", "-1", "+" + plain, plain + ".", plain + "x",
                               "x", "1_0", "0x1", plain + "," + plain, "(" + plain + ")", "1" * 91, "9" * 5000):
                    other = words[:place] + [number] + words[place + 1:]
                    self.refused(" ".join(other) + slash + order)

    def test_too_few_or_too_many_numbers(self):
        for row in ROWS:
            head, slash, order = row.partition(" / ")
            for count in (1, 2, 60):
                if not row.startswith("share"):
                    self.refused(head + " 1" * count + slash + order)
            words = head.split(" ")
            for count in range(1, len(words)):
                if not row.startswith("share") or count == 1:
                    self.refused(" ".join(words[:count]) + slash + order)
        self.refused("share" + " 1" * 61)

    def test_texts_that_are_no_order(self):
        for head in ("rings", "find 1 1 1 1", "find 1 1", "find 1", "need 1", "help 1", "need 2", "help 2"):
            for text in ("", "0", "0 1", "()", "(1 0)", "(1)(0)", "(0 0)", "(0)(0)", "(0 2)", "(0)(2)", "(1)",
                         "(0) (1)", "( 0 1)", "(0  1)", "(00)", "(0 01)", "(0 -1)", "(-0)", "(0", "0)", "((0))",
                         "(0)()", "(3 1 0)(2)", "(2)(0 3 1)", "(0 3 1) (2)", "(0, 1)", "[0 1]", "(a)", "none",
                         "(" + "1" * 91 + ")",
                         "(" + "9" * 5000 + ")", "(" + spaced(*range(61)) + ")"):
                self.refused(f"{head} / {text}")

    def test_people(self):
        for people in (61, 62, 100, FAR_OFF, "9" * 90):
            self.refused(f"good {people} 1")
            self.refused(f"goodorder {people} 1 0")
            for count in (0, 1, 60, 61, people):
                self.refused(f"group {people} 1 {count}")
        self.refused("goodorder 0 0 0")
        self.refused("goodorder 0 1 0")

    def test_openings(self):
        for people in (1, 2, 5, 60):
            text = order_written(tuple(range(people)))
            right = [1] * people
            for openings in (right + [1], right[1:], [people + 1] + right[1:], right[1:] + [FAR_OFF]):
                self.refused(f"find {spaced(*openings)} / {text}")
            self.refused(f"find {text}")
            self.refused(f"find / {text}")
            self.refused(f"share {spaced(*right[1:], people + 1)}")
            self.refused(f"share {spaced(FAR_OFF, *right[1:])}")
            for k in (0, people + 1, FAR_OFF):
                self.refused(f"need {k} / {text}")
                self.refused(f"help {k} / {text}")

    def test_numbers_of_no_order(self):
        for people in (1, 5, 60):
            for k in (0, 1, people, FAR_OFF):
                many = many_good(people, k)
                for number in (many, many + 1, FAR_OFF, "9" * 90):
                    self.refused(f"goodorder {people} {k} {number}")

    def test_groups_of_more_people_than_there_are(self):
        for people in (0, 1, 5, 59, 60):
            for count in (people + 1, people + 2, 60 + 1, 100, FAR_OFF, "9" * 90):
                for k in (0, 1, 60):
                    self.refused(f"group {people} {k} {count}")


class EachSignChanged(Asked):
    def fitting(self, row):
        """The answer of a row by its form, numbers and orders; None where it has none."""
        head, slash, text = row.partition(" / ")
        if not re.fullmatch("[a-z]+(?: " + NUMBER + ")*", head) or (slash and text not in self.orders):
            return None
        word, *words = head.split(" ")
        numbers = tuple(map(int, words))
        order = self.orders[text] if slash else None
        form = (word, len(numbers), bool(slash))
        if word == "share" and not slash and 0 < len(numbers) and max(numbers) <= len(numbers):
            return "{} of {}".format(*share(numbers))
        if form == ("good", 2, False) and numbers[0] <= 60:
            return str(many_good(*numbers))
        if form == ("goodorder", 3, False) and 0 < numbers[0] <= 60 and numbers[2] < many_good(*numbers[:2]):
            return order_written(good_at(*numbers))
        if form == ("group", 3, False) and numbers[2] <= numbers[0] <= 60:
            return str(many_all_of(numbers[0], numbers[1], tuple(range(numbers[2]))))
        if form == ("rings", 0, True):
            return spaced(*ring_lengths(order))
        if slash and form == ("find", len(order), True) and max(numbers) <= len(order):
            return spaced(*who_find(order, numbers)) or "none"
        if form == ("need", 1, True) and 1 <= numbers[0] <= len(order):
            return str(need(order, *numbers))
        if form == ("help", 1, True) and 1 <= numbers[0] <= len(order):
            return " ".join(f"{one}-{other}" for one, other in exchanges(order, *numbers)) or "none"
        return None

    def test_against_the_form_of_each_row(self):
        self.orders = {order_written(order): order for people in range(1, 6) for order in all_orders(people)}
        for row in ROWS + ("find 2 0 / (0 1)", "rings / (0)(1)", "share 1", "group 0 0 0", "need 1 / (0)"):
            others = [other for other in edits(row, "0123456789()- /.x") if "\n" not in other]
            answers = [self.fitting(other) for other in others]
            self.assertTrue(any(answer is None for answer in answers))
            self.assertTrue(any(answer is not None for answer in answers))
            for other, answer in zip(others, answers):
                self.told(other, "refused" if answer is None else answer)


class Sheets(Asked):
    def test_rows_are_answered_one_by_one(self):
        rows = ROWS + ("", "rings", "find 1 1 / (0 1)", "help 2 / (0)(1)")
        answers = ANSWERS + ("refused", "refused", "none", "none")
        lot = Random(36)
        for turn in range(30):
            places = [lot.randrange(len(rows)) for count in range(lot.randint(1, 60))]
            sheet = "\n".join(rows[place] for place in places)
            self.told(sheet, "\n".join(answers[place] for place in places))

    def test_rows_turned_about(self):
        self.told("\n".join(ROWS), "\n".join(ANSWERS))
        self.told("\n".join(reversed(ROWS)), "\n".join(reversed(ANSWERS)))

    def test_empty_rows(self):
        self.refused("")
        self.told("\n", "refused\nrefused")
        self.told("good 4 2\n", "10\nrefused")
        self.told("\ngood 4 2", "refused\n10")
        self.told("good 4 2\n\ngood 4 2", "10\nrefused\n10")

    def test_the_same_sheet_has_the_same_answers(self):
        sheet = "\n".join(ROWS)
        self.assertEqual(answered(sheet), answered(sheet))

    def test_sixty_rows(self):
        text = order_written(SIXTY)
        self.told("\n".join(["good 60 30"] * 60), "\n".join([str(many_good(60, 30))] * 60))
        many = many_good(60, 30)
        goods = [f"goodorder 60 30 {many * part // 60}" for part in range(60)]
        orders = [order_written(good_at(60, 30, many * part // 60)) for part in range(60)]
        self.told("\n".join(goods), "\n".join(orders))
        self.told("\n".join([f"group 60 30 {part}" for part in range(1, 61)]),
                  "\n".join([str(many_all_of(60, 30, tuple(range(part)))) for part in range(1, 61)]))
        self.told("\n".join([f"need {k} / {text}" for k in range(1, 31)]),
                  "\n".join([str(59 // k) for k in range(1, 31)]))
        self.told("\n".join(["share" + " 30" * 30] * 60), "\n".join(["1 of 1"] * 60))
        self.told("\n" * 59, "\n".join(["refused"] * 60))

    def test_six_thousand_signs(self):
        for sign in (" ", "/", "(", "9", "g", "-"):
            self.refused(sign * 6000)
        for row in ("share" + " 1" * 2997, "find" + " 1" * 2990 + " / (0)", "rings / " + "(0)" * 1997,
                    "good 4 " + "2" * 5993, "good 4 2" + " /" * 2996, "share" + " / " * 1998,
                    "rings / (" + "0 " * 2990):
            self.refused(row)


if __name__ == "__main__":
    unittest.main()
