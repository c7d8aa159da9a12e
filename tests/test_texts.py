import unittest

from rowsorder.errors import NoText
from rowsorder.orders import is_order, next_pairs
from rowsorder.texts import read_order, show_order
from tests.samples import chain, loose, odd_things, small_orders, some_orders

EXAMPLE = (4, ((0, 2), (0, 3), (1, 2), (1, 3), (2, 3)))


class Shown(unittest.TestCase):
    def test_the_documents_example(self):
        self.assertEqual(show_order(EXAMPLE), "4 0<2 1<2 2<3")
        self.assertEqual(read_order("4 0<2 1<2 2<3"), EXAMPLE)

    def test_without_pairs(self):
        for many in range(1, 9):
            self.assertEqual(show_order(loose(many)), str(many))
            self.assertEqual(read_order(str(many)), loose(many))

    def test_a_chain(self):
        self.assertEqual(show_order(chain(8)), "8 0<1 1<2 2<3 3<4 4<5 5<6 6<7")
        self.assertEqual(show_order((3, ((1, 0), (2, 0), (2, 1)))), "3 1<0 2<1")

    def test_each_order_is_read_back(self):
        for order in small_orders(4) + some_orders():
            text = show_order(order)
            self.assertEqual(text, " ".join([str(order[0])] + [f"{a}<{b}" for a, b in next_pairs(order)]))
            self.assertEqual(read_order(text), order)
            self.assertTrue(is_order(read_order(text)))


class Refused(unittest.TestCase):
    def check(self, thing, at):
        with self.subTest(thing=thing):
            with self.assertRaises(NoText) as caught:
                read_order(thing)
            self.assertEqual(caught.exception.at, at)
            self.assertNotIsInstance(caught.exception.at, bool)

    def test_no_text(self):
        for thing in odd_things():
            if not isinstance(thing, str):
                self.check(thing, 0)
        for thing in (4, ["4"], ("4",), EXAMPLE, {"4": "0<1"}):
            self.check(thing, 0)

    def test_no_number_of_things(self):
        firsts = [
            "", "0", "9", "10", "12", "01", "04", "-1", "+4", "4.", "4,", "x", "4<", "0<1", "four", "4\n", "\n4",
            "4\t", "\t", "None", "True", "12345678", "4\n0<1", "4\t0<1", "_4", "4_", "'4'",
        ]
        for first in firsts:
            self.check(first, 0)
            self.check(first + " 0<1", 0)
            self.check(first + " x", 0)

    def test_blanks_too_many(self):
        self.check(" ", 0)
        self.check(" 4", 0)
        self.check(" 4 0<2", 0)
        self.check("4 ", 1)
        self.check("4  ", 1)
        self.check("4  0<2", 1)
        self.check("4 0<2 ", 2)
        self.check("4 0<2  1<2", 2)
        self.check("4 0<2 1<2 2<3 ", 4)

    def test_no_pair(self):
        words = [
            "x", "0", "0<", "<1", "<", "01", "0>1", "0 <1", "0<1,", "0<1\n", "\t0<1", "00<1", "0<01", "0<-1", "-0<1",
            "0<<1", "0<1<2", "0,1", "(0,1)", "0<x", "x<1", "0=1", "<01", "01<", "0\t1", "<<<", "0<+",
        ]
        for word in words:
            self.check("4 " + word, 1)
            self.check("4 0<2 " + word, 2)
            self.check("4 " + word + " 9<9", 1)

    def test_no_things_or_alike(self):
        for word in ("0<4", "4<0", "4<4", "0<9", "9<0", "0<0", "3<3"):
            self.check("4 " + word, 1)
        self.check("1 0<0", 1)
        self.check("1 0<1", 1)
        self.check("8 0<8", 1)
        self.check("8 8<0", 1)
        self.check("8 0<1 7<7", 2)

    def test_not_greater(self):
        self.check("4 0<2 0<2", 2)
        self.check("4 0<2 0<1", 2)
        self.check("4 1<2 0<3", 2)
        self.check("4 0<1 0<2 0<1", 3)
        self.check("4 2<3 1<2 0<2", 2)
        self.check("4 0<2 1<2 1<2 x", 3)

    def test_not_just_the_next_pairs(self):
        self.check("3 0<1 0<2 1<2", 4)
        self.check("2 0<1 1<0", 3)
        self.check("3 0<1 1<2 2<0", 4)
        self.check("4 0<2 0<3 1<2 1<3 2<3", 6)
        self.check("8 0<1 0<7 1<2 2<3 3<4 4<5 5<6 6<7", 9)
        self.check("3 0<1 0<2 1<0", 4)

    def test_the_first_wrong_word_goes(self):
        self.check("0 0<0 x", 0)
        self.check("4 0<0 1<1", 1)
        self.check("4 0<1 1<0 x", 3)
        self.check("3 0<1 0<2 1<2 1<2", 4)

    def test_every_text_of_few_pairs(self):
        pairs = [(a, b) for a in range(4) for b in range(4)]
        written = {show_order(order) for many in (1, 2, 3) for order in small_orders(many)}
        for many in (1, 2, 3):
            for first in pairs:
                for second in pairs:
                    text = f"{many} {first[0]}<{first[1]} {second[0]}<{second[1]}"
                    if text in written:
                        self.assertEqual(show_order(read_order(text)), text)
                        continue
                    if max(first) >= many or first[0] == first[1]:
                        self.check(text, 1)
                    elif max(second) >= many or second[0] == second[1] or second <= first:
                        self.check(text, 2)
                    else:
                        self.check(text, 3)


if __name__ == "__main__":
    unittest.main()
