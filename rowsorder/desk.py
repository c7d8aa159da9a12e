"""A desk: keeps an order and rows of it, is told lines, and answers with texts."""

from rowsorder.basics import is_below, is_many
from rowsorder.bounds import bounds
from rowsorder.chains import most_apart
from rowsorder.errors import Bare, NoLine, NoRow, NoThing, TooMany
from rowsorder.fewest import fewest, most_cross
from rowsorder.orders import order_of
from rowsorder.points import two_rows
from rowsorder.rows import first_left, is_row, rows_many, tell
from rowsorder.texts import read_figure, show_order
from rowsorder.turns import turns

MOST_KEPT = 8
CHANGING = ("things", "ahead", "row", "take")
ALONE = ("order", "take", "rows", "told", "left", "fewest", "apart", "cross", "many", "two", "bounds", "back")


class Desk:
    def __init__(self):
        # Each state is an order with its rows; the last one stands, and those before it are there for back.
        self.states = [(order_of(1, []), ())]

    def say(self, line):
        told = read_line(line)
        if told[0] == "back":
            self.go_back()
        if told[0] in CHANGING:
            self.states.append(changed(self.states[-1], told[0], told[1]))
        return answer(told[0], self.states[-1][0], list(self.states[-1][1]))

    def go_back(self):
        if len(self.states) == 1:
            raise Bare("nothing stands that could be undone")
        self.states.pop()


def read_line(line):
    if not isinstance(line, str):
        raise NoLine("this is no text")
    words = line.split(" ")
    numbers = [read_figure(word) for word in words[1:]]
    if -1 in numbers or not goes_with(words[0], numbers):
        raise NoLine("this is none of the lines that a desk is told")
    return (words[0], numbers)


def goes_with(word, numbers):
    if word == "things":
        return len(numbers) == 1 and is_many(numbers[0])
    if word == "ahead":
        return len(numbers) == 2
    if word == "row":
        return len(numbers) > 0
    return word in ALONE and len(numbers) == 0


def changed(state, word, numbers):
    if word == "things":
        return (order_of(numbers[0], []), ())
    if word == "ahead":
        return (with_pair(state[0], numbers[0], numbers[1]), ())
    if word == "row":
        return (state[0], with_row(state[0], state[1], tuple(numbers)))
    if len(state[1]) == 0:
        raise Bare("there is no row to take away")
    return (state[0], state[1][:-1])


def with_pair(order, a, b):
    if not is_below(a, order[0]) or not is_below(b, order[0]):
        raise NoThing("this is no thing of the order")
    # Closing refuses with Ring just where both are one or b is ahead of a.
    return order_of(order[0], list(order[1]) + [(a, b)])


def with_row(order, rows, row):
    if not is_row(row, order):
        raise NoRow("this is no row of the order")
    if len(rows) == MOST_KEPT:
        raise TooMany("the desk keeps no more rows")
    return rows + (row,)


def answer(word, order, rows):
    if word in ("things", "back"):
        return "ok"
    if word == "ahead":
        return str(len(order[1]))
    if word in ("row", "take"):
        return str(len(rows))
    if word in ("rows", "told", "left"):
        return answer_of_rows(word, order, rows)
    return answer_of_order(word, order)


def answer_of_rows(word, order, rows):
    if word == "rows":
        return "; ".join([spaced(row) for row in rows]) if rows else "none"
    if word == "told":
        return yes_or_no(tell(rows, order))
    turn = left_turn(order, rows)
    return "none" if turn is None else spaced(turn)


def left_turn(order, rows):
    if rows:
        return first_left(order, rows)
    every = turns(order)
    return every[0] if every else None


def answer_of_order(word, order):
    if word == "order":
        return show_order(order)
    if word == "fewest":
        return str(fewest(order))
    if word == "apart":
        return str(len(most_apart(order)))
    if word == "cross":
        return str(len(most_cross(order)))
    if word == "many":
        return str(rows_many(order))
    if word == "two":
        return yes_or_no(two_rows(order) is not None)
    return spaced(bounds(order))


def spaced(numbers):
    return " ".join([str(number) for number in numbers])


def yes_or_no(truth):
    return "yes" if truth else "no"
