"""What holds over the whole program: its interface, and points 4 and 6."""

import importlib
import inspect
import unittest

from rowsorder.bounds import all_orders, bounds, first_list, lists_many
from rowsorder.builds import behind_of, beside_of, replaced, rows_behind, rows_beside, rows_replaced, without
from rowsorder.chains import are_chains, chain_row, chain_rows, chains, most_apart
from rowsorder.desk import Desk
from rowsorder.fewest import case_paper, do_cross, fewest, fewest_rows, is_case_paper, most_cross
from rowsorder.kinds import fewest_for, is_kind, order_for, rows_for
from rowsorder.orders import ahead, apart, behind, is_order, next_pairs, order_of, turned
from rowsorder.points import (
    are_points, forced, is_knot, one_row, points_of, points_or_knot, rows_of, two_rows,
)
from rowsorder.rows import first_left, is_row, nth_row, rank_of, rows_many, tell, told_by
from rowsorder.texts import read_order, show_order
from rowsorder.turns import is_ring, sharp_turns, together, turns
from tests.samples import (
    big_orders, crown, cube, fence, frozen, knotted_orders, lists_within, loose, mixed, plain_tell, small_orders,
)

DIAMOND = (4, ((0, 1), (0, 2), (0, 3), (1, 3), (2, 3)))
TWO = (2, ())

INTERFACE = {
    "orders": "is_order(thing) order_of(many,pairs) ahead(order,thing) behind(order,thing) apart(order,thing)"
              " next_pairs(order) turned(order)",
    "texts": "show_order(order) read_order(text)",
    "rows": "is_row(thing,order) rows_many(order) nth_row(order,number) rank_of(order,row) told_by(many,rows)"
            " tell(thing,order) first_left(order,rows)",
    "chains": "most_apart(order) chains(order) are_chains(thing,order) chain_row(order,chain) chain_rows(order)",
    "turns": "turns(order) sharp_turns(order) is_ring(thing,order) together(order,some)",
    "points": "are_points(thing,order) points_of(order,rows) rows_of(order,points) forced(order,turn)"
              " is_knot(thing,order) points_or_knot(order) two_rows(order) one_row(order)",
    "fewest": "fewest(order) fewest_rows(order) is_case_paper(thing,order,count) case_paper(order,count)"
              " do_cross(thing,order) most_cross(order)",
    "kinds": "is_kind(thing) order_for(kind) fewest_for(kind) rows_for(kind)",
    "builds": "behind_of(one,other) beside_of(one,other) replaced(order,thing,other) without(order,thing)"
              " rows_behind(one,other,rows,others) rows_beside(one,other,rows,others)"
              " rows_replaced(order,thing,other,rows,others)",
    "bounds": "bounds(order) all_orders(many) lists_many(order,count) first_list(order)",
}


def orders():
    return [order for many in range(1, 5) for order in small_orders(many)] + big_orders() + knotted_orders()


def asked():
    """A call of each function of the program, with all it is handed in, made anew."""
    return [
        (is_order, [DIAMOND]), (order_of, [4, [(0, 1), (1, 3), (0, 1)]]), (ahead, [DIAMOND, 3]), (behind, [DIAMOND, 0]),
        (apart, [DIAMOND, 1]), (next_pairs, [DIAMOND]), (turned, [DIAMOND]), (show_order, [DIAMOND]),
        (read_order, ["4 0<1 0<2"]), (is_row, [[0, 1, 2, 3], DIAMOND]), (rows_many, [DIAMOND]), (nth_row, [DIAMOND, 1]),
        (rank_of, [DIAMOND, (0, 2, 1, 3)]), (told_by, [3, [(2, 1, 0), (0, 2, 1)]]),
        (tell, [[(0, 1, 2, 3), (0, 2, 1, 3)], DIAMOND]), (first_left, [DIAMOND, [(0, 1, 2, 3)]]),
        (most_apart, [DIAMOND]), (chains, [fence(7)]), (are_chains, [[[2], [0, 1, 3]], DIAMOND]),
        (chain_row, [DIAMOND, [0, 2]]), (chain_rows, [fence(7)]), (turns, [fence(5)]), (sharp_turns, [fence(5)]),
        (is_ring, [[(1, 2), (2, 1)], DIAMOND]), (together, [DIAMOND, [(2, 1), (2, 1)]]),
        (together, [DIAMOND, [(2, 1), (1, 2), (2, 1)]]),
        (are_points, [[(0, 0), (1, 2), (2, 1), (3, 3)], DIAMOND]),
        (points_of, [DIAMOND, [(0, 1, 2, 3), (0, 2, 1, 3)]]),
        (rows_of, [DIAMOND, [(0, 0), (1, 2), (2, 1), (3, 3)]]), (forced, [crown(3), (0, 3)]),
        (is_knot, [[(1, 2), (2, 1)], DIAMOND]), (points_or_knot, [DIAMOND]), (points_or_knot, [crown(3)]),
        (two_rows, [DIAMOND]), (one_row, [DIAMOND]), (fewest, [crown(3)]), (fewest_rows, [crown(3)]),
        (is_case_paper, [("turn", (1, 2), (("ring", 0, [(1, 2)]),)), DIAMOND, 1]), (case_paper, [crown(3), 2]),
        (do_cross, [[(2, 1), (1, 2)], DIAMOND]), (most_cross, [crown(4)]), (is_kind, [("grid", [2, 2])]),
        (order_for, [("bush", (1, None))]), (fewest_for, [("fence", 6)]), (rows_for, [("fence", 6)]),
        (rows_for, [("crown", 4)]), (rows_for, [("grid", (2, 2, 2))]), (rows_for, [("bush", (2, 2, None))]),
        (behind_of, [DIAMOND, TWO]), (beside_of, [DIAMOND, TWO]), (replaced, [DIAMOND, 1, TWO]),
        (without, [DIAMOND, 1]),
        (rows_behind, [TWO, TWO, [(0, 1), (1, 0), (0, 1)], [(1, 0), (0, 1)]]),
        (rows_beside, [TWO, TWO, [(0, 1), (1, 0), (0, 1)], [(1, 0), (0, 1)]]),
        (rows_replaced, [TWO, 1, TWO, [(0, 1), (1, 0)], [(1, 0), (0, 1), (1, 0)]]),
        (bounds, [crown(3)]), (all_orders, [3]), (lists_many, [DIAMOND, 3]), (first_list, [DIAMOND]),
    ]


class Interface(unittest.TestCase):
    def test_names_and_arguments(self):
        for name, functions in INTERFACE.items():
            module = importlib.import_module("rowsorder." + name)
            for function in functions.split():
                called, arguments = function[:-1].split("(")
                found = inspect.signature(getattr(module, called)).parameters
                self.assertEqual(",".join(found), arguments, called)

    def test_the_desk(self):
        self.assertEqual(list(inspect.signature(Desk).parameters), [])
        self.assertEqual(list(inspect.signature(Desk().say).parameters), ["line"])

    def test_each_function_is_asked_here(self):
        names = {function.split("(")[0] for functions in INTERFACE.values() for function in functions.split()}
        self.assertEqual({ask.__name__ for ask, handed in asked()}, names)


class Kept(unittest.TestCase):
    def test_what_is_handed_in_stays(self):
        for ask, handed in asked():
            before = frozen(handed)
            ask(*handed)
            self.assertEqual(frozen(handed), before, ask.__name__)

    def test_what_is_told_is_the_askers_own(self):
        for ask, handed in asked():
            told = ask(*handed)
            before = frozen(told)
            handed_before = frozen(handed)
            within = lists_within(told)
            self.assertEqual(len({id(part) for part in within}), len(within), ask.__name__)
            for part in within:
                part.append("mine")
                part[0] = "mine"
            self.assertEqual(frozen(handed), handed_before, ask.__name__)
            self.assertEqual(frozen(ask(*handed)), before, ask.__name__)

    def test_later_changes_of_what_was_handed_in(self):
        for ask, handed in asked():
            told = ask(*handed)
            before = frozen(told)
            for part in lists_within(handed):
                part.append("theirs")
                part[0] = "theirs"
            self.assertEqual(frozen(told), before, ask.__name__)

    def test_the_same_asked_again(self):
        for (ask, handed), (again, others) in zip(asked(), asked()):
            self.assertEqual(frozen(ask(*handed)), frozen(again(*others)), ask.__name__)


class RowsToldForAnOrder(unittest.TestCase):
    def hold(self, rows, order):
        self.assertTrue(plain_tell(order, rows), (order, rows))
        self.assertIs(tell(rows, order), True)
        self.assertLessEqual(fewest(order), len(rows), order)

    def test_for_one_order(self):
        for order in orders():
            self.hold(fewest_rows(order), order)
            self.assertEqual(len(fewest_rows(order)), fewest(order))
            self.hold(chain_rows(order), order)
            found = points_or_knot(order)
            if found[0] == "points":
                self.hold(rows_of(order, found[1]), order)
                self.hold(two_rows(order), order)
            else:
                self.assertIsNone(two_rows(order))
            if order[0] < 5:
                self.hold(first_list(order), order)

    def test_fewer_are_barred(self):
        for order in orders():
            few = fewest(order)
            for count in range(1, few):
                self.assertIs(is_case_paper(case_paper(order, count), order, count), True)
            if few > 2:
                self.assertIs(is_knot(points_or_knot(order)[1], order), True)

    def test_a_paper_bars_whoever_made_it(self):
        papers = [case_paper(crown(3), 2), case_paper(crown(4), 3), case_paper(loose(6), 1), case_paper(cube(), 2)]
        for order in big_orders() + knotted_orders():
            for paper in papers:
                for count in (1, 2, 3):
                    if is_case_paper(paper, order, count):
                        self.assertLess(count, fewest(order))

    def test_for_kinds(self):
        for kind in (("crown", 2), ("crown", 3), ("crown", 4), ("grid", (2, 2, 2)), ("grid", (4, 2)), ("grid", (1, 1)),
                     ("fence", 1), ("fence", 2), ("fence", 7), ("fence", 8), ("bush", (None,)),
                     ("bush", (3, 3, 6, 5, 5, 7, 7, None)), ("bush", (1, 2, 3, None)), ("bush", (None,) * 8)):
            order = order_for(kind)
            self.hold(rows_for(kind), order)
            self.assertEqual(len(rows_for(kind)), fewest(order))
            self.assertEqual(fewest_for(kind), fewest(order))

    def test_for_what_is_put_together(self):
        parts = [(1, ()), TWO, (2, ((1, 0),)), (3, ((2, 0),)), DIAMOND, fence(5), mixed(5, 4), crown(3)]
        for one in parts:
            for other in parts:
                rows, others = fewest_rows(one), fewest_rows(other)
                if one[0] + other[0] <= 8:
                    self.hold(rows_behind(one, other, rows, others), behind_of(one, other))
                    self.hold(rows_beside(one, other, rows, others), beside_of(one, other))
                if one[0] + other[0] <= 9:
                    for thing in range(one[0]):
                        told = rows_replaced(one, thing, other, rows, others)
                        self.hold(told, replaced(one, thing, other))

    def test_bounds_hold_them(self):
        for order in orders():
            low, high = bounds(order)
            self.assertTrue(low <= len(fewest_rows(order)) <= high, order)

    def test_at_a_desk(self):
        for order in knotted_orders()[:4] + [crown(4), DIAMOND, fence(8), cube()]:
            desk = Desk()
            desk.say(f"things {order[0]}")
            for a, b in order[1]:
                desk.say(f"ahead {a} {b}")
            rows = fewest_rows(order)
            answers = []
            for row in rows:
                answers.append(desk.say("told"))
                desk.say("row " + " ".join(str(thing) for thing in row))
            self.assertEqual(answers, ["no"] * len(rows))
            self.assertEqual([desk.say("told"), desk.say("left")], ["yes", "none"])
            self.assertEqual(desk.say("fewest"), str(len(rows)))


if __name__ == "__main__":
    unittest.main()
