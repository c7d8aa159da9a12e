"""Orders put together: one behind another, beside another, in the place of a thing; and the rows for these."""

from rowsorder.basics import MOST_THINGS, every_pair
from rowsorder.errors import Bare, NoRows, TooMany
from rowsorder.orders import need_order, need_order_and_thing
from rowsorder.rows import tell


def behind_of(one, other):
    need_joined(one, other)
    many = one[0] + other[0]
    between = [(a, b) for a, b in every_pair(many) if a < one[0] <= b]
    return (many, tuple(sorted(list(one[1]) + raised_pairs(other, one[0]) + between)))


def beside_of(one, other):
    need_joined(one, other)
    return (one[0] + other[0], tuple(list(one[1]) + raised_pairs(other, one[0])))


def need_joined(one, other):
    need_both(one, other)
    need_room(one[0] + other[0])


def need_both(one, other):
    need_order(one)
    need_order(other)


def need_room(many):
    if many > MOST_THINGS:
        raise TooMany("there were more things than an order may have")


def raised_pairs(order, step):
    return [(a + step, b + step) for a, b in order[1]]


def replaced(order, thing, other):
    need_replaced(order, thing, other)
    many = order[0] + other[0] - 1
    stood = [standing_for(new, thing, other[0]) for new in range(many)]
    # No thing is ahead of itself, so the new ones have only their own pairs among themselves.
    outer = [(a, b) for a, b in every_pair(many) if (stood[a], stood[b]) in order[1]]
    return (many, tuple(sorted(outer + raised_pairs(other, thing))))


def need_replaced(order, thing, other):
    need_both(order, other)
    need_order_and_thing(order, thing)
    need_room(order[0] + other[0] - 1)


def standing_for(new, thing, many):
    if new < thing:
        return new
    return max(thing, new - many + 1)


def without(order, thing):
    need_order_and_thing(order, thing)
    if order[0] == 1:
        raise Bare("the order has this thing alone")
    kept = [pair for pair in order[1] if thing not in pair]
    return (order[0] - 1, tuple([(moved(a, thing, -1), moved(b, thing, -1)) for a, b in kept]))


def moved(old, thing, step):
    return old + step if old > thing else old


def rows_behind(one, other, rows, others):
    need_joined(one, other)
    need_rows(one, other, rows, others)
    count = max(len(rows), len(others))
    return [row_at(rows, at) + raised_row(row_at(others, at), one[0]) for at in range(count)]


def rows_beside(one, other, rows, others):
    need_joined(one, other)
    need_rows(one, other, rows, others)
    # The last row has the other order first, so that each turn between both is turned once.
    last = max(len(rows), len(others), 2) - 1
    made = [row_at(rows, at) + raised_row(row_at(others, at), one[0]) for at in range(last)]
    return made + [raised_row(row_at(others, last), one[0]) + row_at(rows, last)]


def rows_replaced(order, thing, other, rows, others):
    need_replaced(order, thing, other)
    need_rows(order, other, rows, others)
    count = max(len(rows), len(others))
    return [row_replaced(row_at(rows, at), thing, row_at(others, at)) for at in range(count)]


def need_rows(one, other, rows, others):
    if not tell(rows, one):
        raise NoRows("these are no rows that tell the first order")
    if not tell(others, other):
        raise NoRows("these are no rows that tell the other order")


def row_at(rows, at):
    # A row more leaves what is told, so the last one may stand for all that a shorter list lacks.
    return rows[min(at, len(rows) - 1)]


def raised_row(row, step):
    return tuple([thing + step for thing in row])


def row_replaced(row, thing, inner):
    at = row.index(thing)
    kept = tuple([moved(old, thing, len(inner) - 1) for old in row])
    return kept[:at] + raised_row(inner, thing) + kept[at + 1:]
