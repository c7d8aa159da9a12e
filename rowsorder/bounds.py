"""Bounds of the fewest rows, all orders of few things, and lists of rows, counted."""

from rowsorder.basics import every_pair, is_whole
from rowsorder.chains import most_apart
from rowsorder.errors import NoMany, NoNumber, TooMany
from rowsorder.fewest import fewest, most_cross
from rowsorder.orders import is_order, need_order
from rowsorder.rows import nth_row, places, rows_many, tell
from rowsorder.turns import turns

FEW = 4


def bounds(order):
    need_order(order)
    low = max(len(most_cross(order)), 1)
    high = len(most_apart(order))
    # Of two or three things that are apart, two rows are wanted: more than the half.
    if order[0] < 4:
        return (low, high)
    return (low, min(high, order[0] // 2))


def is_few(thing):
    return is_whole(thing) and 1 <= thing <= FEW


def all_orders(many):
    if not is_few(many):
        raise NoMany("this is no number of things from 1 to 4")
    made = [[]]
    for a, b in every_pair(many):
        if a < b:
            made = with_either(made, a, b)
    found = [(many, tuple(sorted(pairs))) for pairs in made]
    return sorted([one for one in found if is_order(one)])


def with_either(made, a, b):
    longer = []
    for pairs in made:
        longer.extend([pairs, pairs + [(a, b)], pairs + [(b, a)]])
    return longer


def lists_many(order, count):
    need_few_things(order)
    if not is_few(count):
        raise NoNumber("this is no number of rows from 1 to 4")
    tables = [places(row) for row in every_row(order)]
    # Lists that leave the same turns go on alike, so they are counted together.
    counts = {tuple(turns(order)): 1}
    for step in range(count):
        counts = counts_longer(counts, tables)
    return counts.get((), 0)


def counts_longer(counts, tables):
    longer = {}
    for left, ways in counts.items():
        for place in tables:
            still = tuple([(a, b) for a, b in left if place[a] < place[b]])
            longer[still] = longer.get(still, 0) + ways
    return longer


def need_few_things(order):
    need_order(order)
    if order[0] > FEW:
        raise TooMany("the order has more than 4 things")


def every_row(order):
    return [nth_row(order, number) for number in range(rows_many(order))]


def first_list(order):
    need_few_things(order)
    return first_from(order, every_row(order), [], fewest(order))


def first_from(order, every, chosen, few):
    # Rows come rising at each place, so the first list that is found is the first of all.
    if len(chosen) == few:
        return chosen if tell(chosen, order) else None
    for row in every:
        found = first_from(order, every, chosen + [row], few)
        if found is not None:
            return found
    return None
