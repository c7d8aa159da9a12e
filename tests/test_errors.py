import unittest

from rowsorder import errors
from rowsorder.bounds import bounds, first_list, lists_many
from rowsorder.builds import behind_of, beside_of, replaced, rows_behind, rows_beside, rows_replaced, without
from rowsorder.chains import are_chains, chain_row, chain_rows, chains, most_apart
from rowsorder.errors import NoText, RankError
from rowsorder.fewest import case_paper, do_cross, fewest, fewest_rows, is_case_paper, most_cross
from rowsorder.orders import ahead, apart, behind, next_pairs, turned
from rowsorder.points import (
    are_points, forced, is_knot, one_row, points_of, points_or_knot, rows_of, two_rows,
)
from rowsorder.rows import first_left, is_row, nth_row, rank_of, rows_many, tell
from rowsorder.texts import show_order
from rowsorder.turns import is_ring, sharp_turns, together, turns
from tests.samples import odd_things

OF_A_TEXT = (
    "NoOrder", "NoMany", "NoPairs", "Ring", "NoThing", "NoRow", "NoRows", "NoNumber", "NoChain", "NoTurns",
    "NoPoints", "NoKind", "TooMany", "Bare", "NoLine",
)


class Classes(unittest.TestCase):
    def test_rank_error_stands_straight_under_value_error(self):
        self.assertEqual(RankError.__bases__, (ValueError,))

    def test_each_class_stands_straight_under_rank_error(self):
        for name in OF_A_TEXT + ("NoText",):
            self.assertEqual(getattr(errors, name).__bases__, (RankError,), name)

    def test_each_name_is_a_class_of_its_own(self):
        self.assertEqual(len({getattr(errors, name) for name in OF_A_TEXT + ("NoText",)}), 16)

    def test_made_of_a_text(self):
        for name in OF_A_TEXT:
            self.assertEqual(str(getattr(errors, name)("some words")), "some words")

    def test_no_text_keeps_at(self):
        for at in (0, 1, 29):
            error = NoText(at)
            self.assertEqual(error.at, at)
            self.assertIsInstance(str(error), str)


class NoOrderGoesFirst(unittest.TestCase):
    def test_of_whatever_kind_whatever_else_is_wrong(self):
        asked = [
            lambda order, other: ahead(order, other),
            lambda order, other: behind(order, other),
            lambda order, other: apart(order, other),
            lambda order, other: next_pairs(order),
            lambda order, other: turned(order),
            lambda order, other: show_order(order),
            lambda order, other: is_row(other, order),
            lambda order, other: rows_many(order),
            lambda order, other: nth_row(order, other),
            lambda order, other: rank_of(order, other),
            lambda order, other: tell(other, order),
            lambda order, other: first_left(order, other),
            lambda order, other: most_apart(order),
            lambda order, other: chains(order),
            lambda order, other: are_chains(other, order),
            lambda order, other: chain_row(order, other),
            lambda order, other: chain_rows(order),
            lambda order, other: turns(order),
            lambda order, other: sharp_turns(order),
            lambda order, other: is_ring(other, order),
            lambda order, other: together(order, other),
            lambda order, other: are_points(other, order),
            lambda order, other: points_of(order, other),
            lambda order, other: rows_of(order, other),
            lambda order, other: forced(order, other),
            lambda order, other: is_knot(other, order),
            lambda order, other: points_or_knot(order),
            lambda order, other: two_rows(order),
            lambda order, other: one_row(order),
            lambda order, other: fewest(order),
            lambda order, other: fewest_rows(order),
            lambda order, other: is_case_paper(other, order, 2),
            lambda order, other: is_case_paper(None, order, other),
            lambda order, other: case_paper(order, other),
            lambda order, other: do_cross(other, order),
            lambda order, other: most_cross(order),
            lambda order, other: behind_of(order, other),
            lambda order, other: behind_of((8, ()), order),
            lambda order, other: beside_of(order, other),
            lambda order, other: beside_of((8, ()), order),
            lambda order, other: replaced(order, other, (8, ())),
            lambda order, other: replaced((2, ()), other, order),
            lambda order, other: without(order, other),
            lambda order, other: rows_behind(order, (8, ()), other, other),
            lambda order, other: rows_behind((8, ()), order, other, other),
            lambda order, other: rows_beside(order, (8, ()), other, other),
            lambda order, other: rows_beside((8, ()), order, other, other),
            lambda order, other: rows_replaced(order, other, (8, ()), other, other),
            lambda order, other: rows_replaced((2, ()), other, order, other, other),
            lambda order, other: bounds(order),
            lambda order, other: lists_many(order, other),
            lambda order, other: first_list(order),
        ]
        no_orders = odd_things() + [(3, ((0, 1), (1, 2))), (2, ((0, 1), (1, 0))), (1, ((0, 0),)), 0, 1]
        for number, ask in enumerate(asked):
            for order in no_orders:
                for other in (None, 0, 1, [], (0,), [(0,)], [[0]], [(0, 1)], "x", {}):
                    with self.subTest(number=number, order=order, other=other):
                        with self.assertRaises(errors.NoOrder):
                            ask(order, other)


if __name__ == "__main__":
    unittest.main()
