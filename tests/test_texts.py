import re
import unittest
from itertools import product
from random import Random

from checking import (
    FAR_OFF, NUMBER, all_orders, edits, lot_openings, lot_order, lot_plan, no_openings_beside, order_written,
    plans_of_one_and_two, refused, refused_at_row,
)
from ownboxes.errors import BadOpenings, BadPlan, BadText
from ownboxes.plans import following_plan, made_plan
from ownboxes.texts import order_text, plan_text, read_order, read_plan

SIGNS = "0123456789()- \nap"


def tree_written(tree):
    if tree is None:
        return "-"
    return str(tree[0]) + "(" + " ".join(map(tree_written, tree[1])) + ")"


def plan_written(openings, plan):
    rows = [" ".join(["openings", *map(str, openings)])]
    return "\n".join(rows + ["person " + str(p) + " " + tree_written(tree) for p, tree in enumerate(plan)])


def is_tree(text, people):
    """Each tree whose nexts are all None is made None, over and over: by the end one None is left."""
    innermost = re.compile("(?<![0-9])" + NUMBER + r"\(-" + " -" * (people - 1) + r"\)")
    made = innermost.sub("-", text)
    while made != text:
        text, made = made, innermost.sub("-", made)
    return text == "-"


def first_bad_row(text):
    """The number of the first row that is not so written, None where all are."""
    rows = text.split("\n")
    if not re.fullmatch("openings(?: " + NUMBER + "){1,6}", rows[0]):
        return 1
    numbers = [int(word) for word in rows[0].split(" ")[1:]]
    people = len(numbers)
    if max(numbers) > people:
        return 1
    for person in range(people):
        if len(rows) == person + 1:
            return person + 2
        head, tree = rows[person + 1][:9], rows[person + 1][9:]
        if head != f"person {person} " or not is_tree(tree, people):
            return person + 2
    return None if len(rows) == people + 1 else people + 2


def trees_in(text):
    """The trees of a text that is so written, by way of Python's own tuples."""
    trees = []
    for row in text.split("\n")[1:]:
        form = re.sub("([0-9]+)[(]", r"(\1,(", row[9:].replace(")", ",))")).replace("-", "None").replace(" ", ",")
        trees.append(eval(form, {"__builtins__": {}}))
    return trees


def some_plans():
    """Openings with plans for them: all for 1 and 2 people, many for 3 to 6, also with ways that end early."""
    yield from plans_of_one_and_two()
    lot = Random(32)
    for people, turns in ((3, 20), (4, 8), (5, 4), (6, 2)):
        for turn in range(turns):
            openings = lot_openings(lot, people)
            for cut in (0, 0.2, 0.6):
                yield openings, lot_plan(lot, openings, cut)
        for number in range(min(people, 4) + 1):
            yield (number,) * people, lot_plan(lot, (number,) * people, 0.3)


class OrderText(unittest.TestCase):
    def test_as_the_document_tells(self):
        self.assertEqual(order_text((3, 0, 2, 1)), "(0 3 1)(2)")
        self.assertEqual(read_order("(0 3 1)(2)"), (3, 0, 2, 1))
        self.assertEqual(order_text((0,)), "(0)")
        self.assertEqual(read_order("(0)"), (0,))

    def test_all_orders_there_and_back(self):
        for people in range(1, 6):
            for order in all_orders(people):
                text = order_text(order)
                self.assertEqual(text, order_written(order))
                self.assertIs(type(text), str)
                self.assertEqual(read_order(text), order)
                self.assertIs(type(read_order(text)), tuple)

    def test_orders_of_up_to_sixty_there_and_back(self):
        lot = Random(31)
        for people in (9, 10, 11, 20, 59, 60):
            whole = tuple(range(1, people)) + (0,)
            for order in [tuple(range(people)), whole] + [lot_order(lot, people) for turn in range(20)]:
                self.assertEqual(order_text(order), order_written(order))
                self.assertEqual(read_order(order_written(order)), order)


class NoOrderText(unittest.TestCase):
    def refused(self, text):
        refused_at_row(self, 1, read_order, text)

    def test_all_short_texts(self):
        known = {order_written(order): order for people in (1, 2) for order in all_orders(people)}
        read = {}
        for length in range(8):
            for signs in product("()01 ", repeat=length):
                text = "".join(signs)
                try:
                    read[text] = read_order(text)
                except BadText as error:
                    self.assertEqual(error.row, 1)
        self.assertEqual(read, known)

    def test_each_sign_changed(self):
        known = {order_written(order): order for people in range(1, 7) for order in all_orders(people)}
        for text in ("(0)", "(0 1)", "(0)(1)", "(0 3 1)(2)", "(0 2)(1 4 3)", "(0)(1)(2)(3)(4)"):
            for other in edits(text, "0123456789() -\n\t,[]x"):
                if other in known:
                    self.assertEqual(read_order(other), known[other])
                else:
                    self.refused(other)

    def test_rings_told_otherwise(self):
        for text in ("(3 1 0)(2)", "(1 0 3)(2)", "(2)(0 3 1)", "(1)(0)", "(1 0)", "(0 1)(3 2)", "(2 3)(0 1)"):
            self.refused(text)

    def test_blanks_and_signs(self):
        for text in ("", " ", "\n", "(", ")", "()", ")(", "( )", "-", "none", "0", "0 1", "(0)()", "()(0)", "(0) (1)",
                     " (0)", "(0) ", "( 0)", "(0 )", "(0  1)", "((0))", "(0)(1", "0)(1)", "(0(1))", "(0,1)", "[0]",
                     "(0)\n", "\n(0)", "(0)\n(1)", "(0\n1)", "(0\t1)", "(a)", "(0 b)", "(0)x", "x(0)",
                     "(0)(1)(", "(0))"):
            self.refused(text)

    def test_numbers(self):
        for text in ("(00)", "(0 01)", "(0)(01)", "(-0)", "(0 -1)", "(-1 0)", "(+0)", "(0 +1)", "(0.)", "(0x0)",
                     "(0_0)", "(1)", "(0 0)", "(0)(0)", "(0 1 0)", "(0 1)(1)", "(0 2)", "(0)(2)", "(0 1)(3)",
                     "(0)(1)(60)"):
            self.refused(text)

    def test_figures_of_very_many_digits(self):
        for digits in (89, 90, 91, 200, 4299, 4300, 4301, 5990):
            for number in ("9" * digits, "0" * digits, "1" + "0" * (digits - 1)):
                for text in (f"({number})", f"(0 {number})", f"(0)({number})", number):
                    self.refused(text)

    def test_sixty_one_boxes_and_more(self):
        for people in (61, 62, 100, 1000):
            self.refused("(" + " ".join(map(str, range(people))) + ")")
            self.refused("".join(f"({box})" for box in range(people)))

    def test_texts_of_six_thousand_signs(self):
        for text in ("(0)" * 2000, "(" * 6000, ")" * 6000, "(" * 3000 + ")" * 3000, " " * 6000, "0" * 6000, "\n" * 6000,
                     "(" + "0 " * 2999 + ")", "()" * 3000, "(0" + " 0" * 2998 + ")", ")(" * 3000):
            self.refused(text)


class PlanText(unittest.TestCase):
    def test_as_the_document_tells(self):
        tree = (0, (None, (1, (None, None, None)), None))
        self.assertEqual(
            plan_text((2, 0, 2), (None, None, tree)),
            "openings 2 0 2\nperson 0 -\nperson 1 -\nperson 2 0(- 1(- - -) -)",
        )

    def test_plans_there_and_back(self):
        for openings, plan in some_plans():
            text = plan_text(openings, plan)
            self.assertEqual(text, plan_written(openings, plan))
            self.assertIs(type(text), str)
            told = read_plan(text)
            self.assertEqual(told, (openings, plan))
            self.assertIs(type(told), tuple)

    def test_what_is_read_is_tuples_all_the_way_down(self):
        def look(value):
            self.assertIn(type(value), (tuple, int, type(None)))
            for part in value if type(value) is tuple else ():
                look(part)
        for openings, plan in some_plans():
            look(read_plan(plan_written(openings, plan)))

    def test_whole_following_plans(self):
        for people in range(1, 7):
            for number in range(people + 1):
                openings = (number,) * people
                plan = following_plan(openings)
                self.assertEqual(read_plan(plan_text(openings, plan)), (openings, plan))

    def test_openings_of_nought(self):
        for people in range(1, 7):
            openings, plan = (0,) * people, (None,) * people
            self.assertEqual(read_plan(plan_text(openings, plan)), (openings, plan))

    def test_bad_openings_beside_a_plan(self):
        for people in range(1, 7):
            for plan in ((None,) * people, following_plan((1,) * people)):
                for openings in no_openings_beside(people):
                    refused(self, BadOpenings, plan_text, openings, plan)


class NoPlanText(unittest.TestCase):
    def refused(self, row, text):
        self.assertEqual(first_bad_row(text), row)
        refused_at_row(self, row, read_plan, text)

    def test_each_sign_changed(self):
        for text in ("openings 1\nperson 0 0(-)", "openings 1 2\nperson 0 1(- -)\nperson 1 0(1(- -) -)",
                     "openings 1 0 2\nperson 0 2(- - -)\nperson 1 -\nperson 2 0(- 1(- - -) -)"):
            right, no_plans = 0, 0
            for other in edits(text, SIGNS):
                row = first_bad_row(other)
                if row is not None:
                    refused_at_row(self, row, read_plan, other)
                    continue
                try:
                    openings = tuple(int(word) for word in other.split("\n")[0].split(" ")[1:])
                    plan = made_plan(openings, trees_in(other))
                except BadPlan:
                    no_plans += 1
                    refused(self, BadPlan, read_plan, other)
                else:
                    right += 1
                    self.assertEqual(read_plan(other), (openings, plan))
            self.assertTrue(right > 0 and no_plans > 0)

    def test_the_first_row(self):
        behind = "\nperson 0 -\nperson 1 -"
        for row in ("", "openings", "openings ", "openings  1 1", "openings 1  1", " openings 1 1", "openings 1 1 ",
                    "Openings 1 1", "opening 1 1", "openingss 1 1", "person 1 1", "1 1", "openings1 1", "openings 1,1",
                    "openings 01 1", "openings 1 00", "openings -1 1", "openings 1 -0", "openings +1 1", "openings 1 x",
                    "openings 3 1", "openings 1 3", "openings 2", f"openings 1 {FAR_OFF}", "openings 1 " + "0" * 91,
                    "openings 1 " + "1" * 5000, "openings 1 1 1 1 1 1 1", "openings" + " 0" * 7, "openings" + " 1" * 60,
                    "openings" + " 0" * 61, "openings\t1 1", "openings\n1 1", "openings (1 1)"):
            self.refused(1, row + behind)
            self.refused(1, row)
        self.refused(1, "openings" + " 7" * 7 + "".join(f"\nperson {p} -" for p in range(7)))

    def test_the_first_row_at_its_ends(self):
        for people in range(1, 7):
            rows = "".join(f"\nperson {p} -" for p in range(people))
            for number in (0, people):
                text = "openings" + f" {number}" * people + rows
                self.assertEqual(read_plan(text), ((number,) * people, (None,) * people))
            self.refused(1, "openings" + f" {people + 1}" * people + rows)

    def test_a_further_row(self):
        plain = ["openings 2 2 2", "person 0 -", "person 1 -", "person 2 -"]
        for row in (2, 3, 4):
            person = row - 2
            for text in ("", "-", "person", "person ", f"person {person}", f"person {person} ", f"person  {person} -",
                         f"person {person}  -", f" person {person} -", f"person {person} - ", f"person{person} -",
                         f"Person {person} -", f"persons {person} -", f"people {person} -", f"{person} -",
                         f"person {person + 1} -", f"person {person - 1} -", f"person 0{person} -", "person 7 -",
                         f"person {FAR_OFF} -", f"person {person}-", f"person {person} --", f"person {person} - -",
                         "openings 2 2 2", "person x -"):
                for further in ([], [plain[3]], ["", ""]):
                    self.refused(row, "\n".join(plain[:row - 1] + [text] + plain[row:] + further))
                self.refused(row, "\n".join(plain[:row - 1] + [text]))

    def test_a_tree_that_is_not_so_written(self):
        for tree in ("None", "0", "0 ", "0()", "0( )", "(", ")", "()", "(- -)", "0(- -", "0 (- -)", "0(- -) ",
                     "0( - -)", "0(- - )", "0(-  -)", "0(--)", "0(-,-)", "0[- -]", "-(- -)", "-0(- -)", "+0(- -)",
                     "00(- -)", "01(- -)", "x(- -)", "0(- -)(- -)", "0(- -)-", "0(- -) -", "0((- -) -)", "0(- -))",
                     "((0(- -)))",
                     "0(- x)", "0(- 1)", "0(1 -)", "0(- 1(- -)", "0(1(- -) -", "0(1(- -)-)", "0(- 1 (- -))",
                     "0(- 01(- -))", "0(- -1(- -))", "0(- 1(- -) )", "0(-\t-)", "0" * 91 + "(- -)", "1" * 91 + "(- -)",
                     "9" * 5000 + "(- -)", "0(- " + "1" * 91 + "(- -))"):
            self.refused(2, f"openings 2 2\nperson 0 {tree}\nperson 1 -")
            self.refused(3, f"openings 2 2\nperson 0 -\nperson 1 {tree}")

    def test_too_few_or_too_many_nexts_at_any_depth(self):
        for people in range(1, 7):
            first = "openings" + f" {people}" * people
            rest = "".join(f"\nperson {p} -" for p in range(1, people))
            for count, place in product(set(range(people + 3)) - {people}, {0, people // 2, people - 1}):
                tree = "1(" + " ".join(["-"] * count) + ")"
                for depth in range(6):
                    self.refused(2, f"{first}\nperson 0 {tree}{rest}")
                    if people > 1:
                        self.refused(3, f"{first}\nperson 0 -\nperson 1 {tree}")
                    tree = "0(" + "- " * place + tree + " -" * (people - 1 - place) + ")"

    def test_rows_that_lack(self):
        for people in range(1, 7):
            rows = ["openings" + f" {people}" * people] + [f"person {p} -" for p in range(people)]
            for count in range(1, people + 1):
                self.refused(count + 1, "\n".join(rows[:count]))
                self.refused(count + 1, "\n".join(rows[:count] + [""]))

    def test_a_row_behind_the_last_one(self):
        for people in range(1, 7):
            rows = ["openings" + f" {people}" * people] + [f"person {p} -" for p in range(people)]
            for further in ([""], ["", ""], [f"person {people} -"], [f"person {people} -", ""], [rows[-1]], [rows[0]],
                            ["x", "person 0 -"], ["-"]):
                self.refused(people + 2, "\n".join(rows + further))

    def test_the_first_of_several_rows_that_are_not_so(self):
        self.refused(1, "openings 3 1\nperson 1 -\nperson 0 -\n")
        self.refused(2, "openings 2 1\nperson 1 -\nperson 0 -\n")
        self.refused(3, "openings 2 1\nperson 0 9(- -)\nperson 0 -\n")
        self.refused(4, "openings 2 1\nperson 0 9(- -)\nperson 1 -\n")
        self.refused(1, "")
        self.refused(1, "\n")


class NoPlanInAText(unittest.TestCase):
    TREES = (
        "2(- -)", "9(- -)", str(FAR_OFF) + "(- -)", "9" * 90 + "(- -)", "0(1(- -) -)", "0(- 0(- -))",
        "0(- 1(- 0(- -)))", "0(- 1(1(- -) -))", "0(- 2(- -))", "0(0(0(0(- -) -) -) -)",
    )

    def test_bad_plan_only_when_every_row_is_right(self):
        for tree in self.TREES:
            right = f"openings 2 1\nperson 0 {tree}\nperson 1 -"
            self.assertIsNone(first_bad_row(right))
            refused(self, BadPlan, read_plan, right)
            refused_at_row(self, 1, read_plan, "openings 3 1" + right[12:])
            refused_at_row(self, 3, read_plan, right + " ")
            refused_at_row(self, 3, read_plan, right[:-9])
            refused_at_row(self, 3, read_plan, right[:-10])
            refused_at_row(self, 4, read_plan, right + "\n")
            refused_at_row(self, 4, read_plan, right + "\nperson 2 -")

    def test_the_last_persons_tree(self):
        for tree in ("2(- -)", "0(- 1(- -))", "1(1(- -) -)", "0(1(0(- -) -) -)"):
            refused(self, BadPlan, read_plan, f"openings 1 2\nperson 0 -\nperson 1 {tree}")

    def test_more_boxes_than_openings(self):
        refused(self, BadPlan, read_plan, "openings 0\nperson 0 0(-)")
        refused(self, BadPlan, read_plan, "openings 1 1\nperson 0 0(- 1(- -))\nperson 1 -")
        self.assertEqual(read_plan("openings 1\nperson 0 0(-)"), ((1,), ((0, (None,)),)))


class Bounds(unittest.TestCase):
    def test_brackets_within_one_another(self):
        for people in range(1, 7):
            first = "openings" + f" {people}" * people + "\nperson 0 "
            last = "".join(f"\nperson {p} -" for p in range(1, people))
            for place in {0, people - 1}:
                for depth in (6, 7, 29, 30, 31, 60, 300):
                    before, later = "- " * place, " -" * (people - 1 - place)
                    tree = ("0(" + before) * depth + "-" + (later + ")") * depth
                    refused(self, BadPlan, read_plan, first + tree + last)
                    refused_at_row(self, 2, read_plan, first + tree + ")" + last)
                    refused_at_row(self, 2, read_plan, first + tree[:-1] + last)
                    refused_at_row(self, people + 2, read_plan, first + tree + last + "\n")

    def test_texts_of_six_thousand_signs(self):
        first = "openings 1\nperson 0 "
        left = 6000 - len(first)
        for tree in ("0(" * (left // 2), "(" * left, ")" * left, "-" * left, " " * left, "9" * left,
                     "0(-)" * (left // 4), "0(" * (left // 3) + "-" + ")" * (left // 3 - 1), "- " * (left // 2),
                     "0 (" * (left // 3)):
            refused_at_row(self, 2, read_plan, first + tree)
        refused_at_row(self, 3, read_plan, first + "-" + "\n" * (left - 1))
        for sign in ("\n", "-", "(", "0", " ", "o"):
            refused_at_row(self, 1, read_plan, sign * 6000)
        refused_at_row(self, 1, read_plan, "openings" + " 1" * 2996)
        deep = left // 3 - 1
        refused(self, BadPlan, read_plan, first + "0(" * deep + "-" + ")" * deep)

    def test_a_plan_of_about_six_thousand_signs(self):
        lot = Random(60)
        texts = [plan_written((k,) * 6, lot_plan(lot, (k,) * 6, cut)) for k in (3, 4) for cut in (0, 0.1, 0.2, 0.3)]
        near = max([text for text in texts if len(text) <= 6000], key=len)
        self.assertGreater(len(near), 2000)
        openings, plan = read_plan(near)
        self.assertEqual(plan_text(openings, plan), near)


if __name__ == "__main__":
    unittest.main()
