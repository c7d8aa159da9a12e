import unittest
from itertools import combinations, permutations
from math import factorial

from rowsorder.errors import NoMany, NoNumber, NoRow, NoRows
from rowsorder.orders import is_order, turned
from rowsorder.rows import first_left, is_row, nth_row, rank_of, rows_many, tell, told_by
from tests.samples import (
    big_orders, chain, crown, cube, fence, loose, odd_things, plain_rows, plain_turns, small_orders, some_orders,
)

DIAMOND = (4, ((0, 1), (0, 2), (0, 3), (1, 3), (2, 3)))
STRAIGHT = (0, 1, 2, 3)
CROSSED = (0, 2, 1, 3)


def few_rows(order):
    return plain_rows(order)[:3]


def left_of(order, rows):
    for a, b in plain_turns(order):
        if not any(row.index(b) < row.index(a) for row in rows):
            return (a, b)
    return None


class IsRow(unittest.TestCase):
    def test_every_line_of_few_things(self):
        for many in range(1, 5):
            for order in small_orders(many):
                told = [line for line in permutations(range(many)) if is_row(line, order)]
                self.assertEqual(told, plain_rows(order))

    def test_of_eight_things(self):
        self.assertIs(is_row((0, 1, 2, 3, 4, 5, 6, 7), chain(8)), True)
        self.assertIs(is_row((0, 1, 2, 3, 4, 5, 7, 6), chain(8)), False)
        self.assertIs(is_row((7, 6, 5, 4, 3, 2, 1, 0), loose(8)), True)
        self.assertIs(is_row((0, 4, 2, 6, 1, 5, 3, 7), cube()), True)
        self.assertIs(is_row((0, 4, 3, 6, 1, 5, 2, 7), cube()), False)

    def test_no_row_of_whatever_kind(self):
        wrong = odd_things() + [
            [0, 1, 2, 3], (0, 1, 2), (0, 1, 2, 3, 4), (0, 1, 1, 3), (0, 1, 2, 2), (0, 1, 2, 4), (-1, 1, 2, 3),
            (0, True, 2, 3), (False, 1, 2, 3), (0, 1, "2", 3), (0, 1, 2, None), (0, 1, [2], 3), (0, 1, {}, 3),
            "0123", {0: 0, 1: 1, 2: 2, 3: 3}, (0, 1, 2, 3, 3), (0, 0, 1, 2, 3), ((0, 1, 2, 3),),
            (0, 1, 2, 10 ** 39), (1, 0, 2, 3), (3, 2, 1, 0),
        ]
        for thing in wrong:
            self.assertIs(is_row(thing, DIAMOND), False, thing)
        self.assertIs(is_row((False,), (1, ())), False)
        self.assertIs(is_row((0,), (1, ())), True)


class Numbered(unittest.TestCase):
    def test_how_many(self):
        self.assertEqual(rows_many((1, ())), 1)
        self.assertEqual(rows_many(DIAMOND), 2)
        for many in range(1, 9):
            self.assertEqual(rows_many(chain(many)), 1)
            self.assertEqual(rows_many(loose(many)), factorial(many))
        self.assertEqual(rows_many(cube()), 48)
        self.assertEqual([rows_many(fence(many)) for many in range(1, 9)], [1, 1, 2, 5, 16, 61, 272, 1385])

    def test_each_row_and_its_number(self):
        for order in some_orders():
            if order[0] > 6:
                continue
            rows = plain_rows(order)
            self.assertEqual(rows_many(order), len(rows))
            for number, row in list(enumerate(rows))[::1 if len(rows) < 50 else 17]:
                self.assertEqual(nth_row(order, number), row)
                self.assertEqual(rank_of(order, row), number)

    def test_rows_of_more_things(self):
        for order in big_orders()[::3] + [loose(8), crown(4), cube()]:
            if order[0] < 7:
                continue
            rows = plain_rows(order)
            self.assertEqual(rows_many(order), len(rows))
            for number in {0, len(rows) - 1, len(rows) // 2, len(rows) // 3, len(rows) * 4 // 5}:
                self.assertEqual(nth_row(order, number), rows[number])
                self.assertEqual(rank_of(order, rows[number]), number)

    def test_every_row_of_a_cube(self):
        told = [nth_row(cube(), number) for number in range(48)]
        self.assertEqual(told, plain_rows(cube()))
        self.assertEqual([rank_of(cube(), row) for row in told], list(range(48)))

    def test_no_number(self):
        for number in odd_things() + [2, 3, -2, (0,)]:
            with self.assertRaises(NoNumber):
                nth_row(DIAMOND, number)
        for order in some_orders()[::7]:
            for number in (rows_many(order), rows_many(order) + 1, -1, 10 ** 39):
                with self.assertRaises(NoNumber):
                    nth_row(order, number)
        self.assertEqual(nth_row(loose(8), 40319), (7, 6, 5, 4, 3, 2, 1, 0))
        with self.assertRaises(NoNumber):
            nth_row(loose(8), 40320)

    def test_no_row(self):
        wrong = odd_things() + [
            0, [0, 1, 2, 3], (0, 1, 2), (1, 0, 2, 3), (0, 1, 2, 2), (0, True, 2, 3), (0, 1, 2, "3"), [STRAIGHT],
            (0, 1, 2, 3, 4), (0, 1, 2, 3, 3), (0, 3, 1, 2), (0, 1, 2, -1),
        ]
        for row in wrong:
            with self.assertRaises(NoRow):
                rank_of(DIAMOND, row)
        for row in set(permutations(range(4))) - {STRAIGHT, CROSSED}:
            with self.assertRaises(NoRow):
                rank_of(DIAMOND, row)


class ToldBy(unittest.TestCase):
    def test_plain_ones(self):
        self.assertEqual(told_by(1, [(0,)]), (1, ()))
        self.assertEqual(told_by(4, [STRAIGHT]), chain(4))
        self.assertEqual(told_by(4, [STRAIGHT, CROSSED]), DIAMOND)
        self.assertEqual(told_by(4, [CROSSED, STRAIGHT, STRAIGHT]), DIAMOND)
        self.assertEqual(told_by(3, [(2, 1, 0)]), (3, ((1, 0), (2, 0), (2, 1))))
        self.assertEqual(told_by(8, [tuple(range(8)), tuple(range(7, -1, -1))]), loose(8))

    def test_every_two_rows_of_four_things(self):
        lines = list(permutations(range(4)))
        pairs = [(a, b) for a in range(4) for b in range(4)]
        for one in lines:
            for other in lines:
                order = told_by(4, [one, other])
                shared = [(a, b) for a, b in pairs if one.index(a) < one.index(b) and other.index(a) < other.index(b)]
                self.assertEqual(order, (4, tuple(shared)))
                self.assertTrue(is_order(order))

    def test_many_rows(self):
        lines = list(permutations(range(6)))[:400]
        shared = [(a, b) for a in range(6) for b in range(6) if all(row.index(a) < row.index(b) for row in lines)]
        self.assertEqual(told_by(6, lines), (6, tuple(shared)))

    def test_no_many_goes_first(self):
        for many in odd_things() + [0, 10, 10 ** 39]:
            for rows in ([(0,)], [], None, [(0, 1)], 5):
                with self.assertRaises(NoMany):
                    told_by(many, rows)

    def test_no_rows(self):
        wrong = odd_things() + [
            0, [], (), ((0, 1),), [[0, 1]], [(0, 1), [1, 0]], [(0, 1), None], [(0,)], [(0, 1, 2)], [(0, 0)], [(1, 1)],
            [(0, 2)], [(0, True)], [(False, 1)], [("0", "1")], "01", {(0, 1): True}, [()], [0, 1], [(0, [1])],
            [(0, 1), (1, 0), (1, 2)], [(0, -1)], [({}, {})], [(0, 1, 1)], [(0, 1), (0, 0, 1)],
        ]
        for rows in wrong:
            with self.subTest(rows=rows):
                with self.assertRaises(NoRows):
                    told_by(2, rows)


class Tell(unittest.TestCase):
    def test_lists_that_tell(self):
        self.assertIs(tell([(0,)], (1, ())), True)
        self.assertIs(tell([(0,), (0,)], (1, ())), True)
        self.assertIs(tell([STRAIGHT, CROSSED], DIAMOND), True)
        self.assertIs(tell([CROSSED, STRAIGHT, CROSSED], DIAMOND), True)
        self.assertIs(tell([STRAIGHT], chain(4)), True)
        self.assertIs(tell([tuple(range(8)), tuple(range(7, -1, -1))], loose(8)), True)

    def test_lists_that_do_not(self):
        self.assertIs(tell([STRAIGHT], DIAMOND), False)
        self.assertIs(tell([CROSSED, CROSSED], DIAMOND), False)
        self.assertIs(tell([STRAIGHT, (1, 0, 2, 3)], DIAMOND), False)
        self.assertIs(tell([STRAIGHT, CROSSED], chain(4)), False)
        self.assertIs(tell([STRAIGHT, CROSSED], loose(4)), False)

    def test_things_of_whatever_kind(self):
        wrong = odd_things() + [
            0, [], (STRAIGHT, CROSSED), [STRAIGHT, list(CROSSED)], [STRAIGHT, CROSSED, None], [STRAIGHT, CROSSED, ()],
            {STRAIGHT: CROSSED}, [(0, True, 2, 3), CROSSED], [STRAIGHT + (4,), CROSSED], [(0, 1, 2), CROSSED],
            [[STRAIGHT, CROSSED]], STRAIGHT, [STRAIGHT, CROSSED, STRAIGHT[::-1]], [STRAIGHT, CROSSED, (0, 1, 2, 2)],
        ]
        for thing in wrong:
            self.assertIs(tell(thing, DIAMOND), False, thing)

    def test_every_two_rows_of_small_orders(self):
        for order in small_orders(3) + small_orders(4)[::6]:
            lines = list(permutations(range(order[0])))
            rows = plain_rows(order)
            for some in combinations(lines, 2):
                whole = all(row in rows for row in some) and left_of(order, some) is None
                self.assertIs(tell(list(some), order), whole)

    def test_all_rows_together_tell(self):
        for order in some_orders():
            rows = plain_rows(order)
            if len(rows) <= 5040:
                self.assertIs(tell(rows, order), True)
                self.assertIsNone(first_left(order, rows))
                self.assertEqual(told_by(order[0], rows), order)

    def test_told_just_where_each_turn_is_turned(self):
        for order in small_orders(3) + small_orders(4)[::9]:
            rows = plain_rows(order)
            for size in (1, 2, 3):
                for some in combinations(rows, size):
                    whole = all(any(row.index(b) < row.index(a) for row in some) for a, b in plain_turns(order))
                    self.assertIs(tell(list(some), order), whole)
                    self.assertIs(first_left(order, list(some)) is None, whole)

    def test_a_row_more_leaves_it_told(self):
        for order in small_orders(3) + small_orders(4)[::9]:
            rows = plain_rows(order)
            for some in combinations(rows, 2):
                if tell(list(some), order):
                    for row in rows:
                        self.assertIs(tell(list(some) + [row], order), True)
                        self.assertIs(tell([row] + list(some), order), True)


class FirstLeft(unittest.TestCase):
    def test_plain_ones(self):
        self.assertEqual(first_left(DIAMOND, [STRAIGHT]), (1, 2))
        self.assertEqual(first_left(DIAMOND, [CROSSED]), (2, 1))
        self.assertEqual(first_left(DIAMOND, [CROSSED, CROSSED]), (2, 1))
        self.assertIsNone(first_left(DIAMOND, [STRAIGHT, CROSSED]))
        self.assertIsNone(first_left((1, ()), [(0,)]))
        self.assertIsNone(first_left(chain(8), [tuple(range(8))]))
        self.assertEqual(first_left(loose(3), [(2, 1, 0)]), (1, 0))
        self.assertEqual(first_left(loose(3), [(2, 1, 0), (1, 2, 0)]), (1, 0))
        self.assertEqual(first_left(loose(3), [(2, 1, 0), (0, 2, 1)]), (2, 1))
        self.assertEqual(first_left(loose(8), [tuple(range(8))]), (0, 1))

    def test_few_rows_of_many_orders(self):
        for order in some_orders():
            rows = plain_rows(order)
            for some in (rows[:1], rows[-1:], rows[:2], rows[:1] + rows[-1:], rows[::5][:9]):
                told = first_left(order, some)
                self.assertEqual(told, left_of(order, some))
                self.assertIs(tell(some, order), told is None)

    def test_no_rows(self):
        wrong = odd_things() + [
            0, [], (STRAIGHT,), [list(STRAIGHT)], [STRAIGHT, (1, 0, 2, 3)], [STRAIGHT, None], [(0, 1, 2)], STRAIGHT,
            [(0, True, 2, 3)], [(0, 1, 2, 2)], {STRAIGHT: 1}, [STRAIGHT, CROSSED, (3, 2, 1, 0)], [STRAIGHT, 0],
        ]
        for rows in wrong:
            with self.subTest(rows=rows):
                with self.assertRaises(NoRows):
                    first_left(DIAMOND, rows)


class Kept(unittest.TestCase):
    def test_what_is_handed_in_stays(self):
        for rows in ([CROSSED, STRAIGHT, STRAIGHT], [STRAIGHT]):
            before = list(rows)
            told = told_by(4, rows)
            first_left(DIAMOND, rows)
            tell(rows, DIAMOND)
            self.assertEqual(rows, before)
            kept = (told[0], tuple(told[1]))
            rows.append((3, 2, 1, 0))
            self.assertEqual(told, kept)

    def test_refused_lists_stay(self):
        rows = [CROSSED, [0, 1, 2, 3], None]
        with self.assertRaises(NoRows):
            told_by(4, rows)
        with self.assertRaises(NoRows):
            first_left(DIAMOND, rows)
        self.assertIs(tell(rows, DIAMOND), False)
        self.assertEqual(rows, [CROSSED, [0, 1, 2, 3], None])

    def test_the_same_asked_again(self):
        for order in some_orders()[::4]:
            rows = few_rows(order)
            first = (rows_many(order), nth_row(order, 0), first_left(order, rows), told_by(order[0], rows))
            turned(order)
            again = (rows_many(order), nth_row(order, 0), first_left(order, rows), told_by(order[0], rows))
            self.assertEqual(first, again)


if __name__ == "__main__":
    unittest.main()
