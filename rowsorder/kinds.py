"""Kinds of orders: crowns, grids, fences and bushes, and the rows that are known to tell them."""

from rowsorder.basics import MOST_THINGS, every_pair, is_below, is_many, is_whole
from rowsorder.errors import NoKind
from rowsorder.orders import order_of
from rowsorder.points import one_row


def is_kind(thing):
    if not isinstance(thing, tuple) or len(thing) != 2:
        return False
    if thing[0] == "crown":
        return is_whole(thing[1]) and 2 <= thing[1] <= MOST_THINGS // 2
    if thing[0] == "grid":
        return are_sizes(thing[1])
    if thing[0] == "fence":
        return is_many(thing[1])
    return thing[0] == "bush" and is_over(thing[1])


def are_sizes(thing):
    if not isinstance(thing, tuple) or not 1 <= len(thing) <= 3:
        return False
    # Each size is bounded ahead of the cells, so that none too great are made.
    return all([is_many(size) for size in thing]) and len(cells(thing)) <= MOST_THINGS


def is_over(thing):
    if not isinstance(thing, tuple) or not is_many(len(thing)):
        return False
    return all([one is None or (is_below(one, len(thing)) and one > at) for at, one in enumerate(thing)])


def need_kind(thing):
    if not is_kind(thing):
        raise NoKind("this is no kind of orders")


def order_for(kind):
    need_kind(kind)
    if kind[0] == "crown":
        return order_of(2 * kind[1], crown_pairs(kind[1]))
    if kind[0] == "grid":
        return order_of(len(cells(kind[1])), grid_pairs(kind[1]))
    if kind[0] == "fence":
        return order_of(kind[1], fence_pairs(kind[1]))
    return order_of(len(kind[1]), bush_pairs(kind[1]))


def crown_pairs(half):
    return [(a, half + b) for a, b in every_pair(half) if a != b]


def grid_pairs(sizes):
    made = cells(sizes)
    return [(a, b) for a, b in every_pair(len(made)) if a != b and is_within(made[a], made[b])]


def cells(sizes):
    made = [()]
    for size in sizes:
        made = longer_cells(made, size)
    return made


def longer_cells(made, size):
    longer = []
    for cell in made:
        longer.extend([cell + (number,) for number in range(size)])
    return longer


def is_within(cell, other):
    return all([number <= bound for number, bound in zip(cell, other)])


def fence_pairs(many):
    return [(a, b) for a, b in every_pair(many) if a % 2 == 0 and abs(a - b) == 1]


def bush_pairs(over):
    return [(thing, upper) for thing, upper in enumerate(over) if upper is not None]


def fewest_for(kind):
    need_kind(kind)
    if kind[0] == "crown":
        return kind[1]
    if kind[0] == "grid":
        return len(wide_places(kind[1]))
    return 1 if one_row(order_for(kind)) else 2


def wide_places(sizes):
    wide = [place for place, size in enumerate(sizes) if size > 1]
    # A grid of one thing alone wants a row too, whichever place it is walked by.
    return wide if wide else [0]


def rows_for(kind):
    need_kind(kind)
    if kind[0] == "crown":
        return [crown_row(kind[1], late) for late in range(kind[1])]
    if kind[0] == "grid":
        return [grid_row(kind[1], place) for place in wide_places(kind[1])]
    if kind[0] == "fence":
        rows = [fence_row(kind[1], step) for step in (1, -1)]
    else:
        rows = [bush_row(kind[1], step) for step in (1, -1)]
    return rows[:fewest_for(kind)]


def crown_row(half, late):
    # Only one thing may come behind the upper one that it is apart from: each row turns another such turn.
    early = [thing for thing in range(half) if thing != late]
    return tuple(early + [half + late, late] + [half + thing for thing in early])


def grid_row(sizes, place):
    made = cells(sizes)
    # Cells that are alike at this place keep their order, and in that each comes behind those within it.
    return tuple(sorted(range(len(made)), key=lambda thing: made[thing][place]))


def fence_row(many, step):
    # Walked from the left or from the right, an odd thing waits for the even one beyond it alone.
    return tuple(sorted(range(many), key=lambda thing: (step * thing + thing % 2, thing % 2)))


def bush_row(over, step):
    # A path begins with the path of each thing over it, so, falling, that one comes behind; branches change sides
    # where the step is turned.
    return tuple(sorted(range(len(over)), key=lambda thing: path_down(over, thing, step), reverse=True))


def path_down(over, thing, step):
    path = []
    at = thing
    while at is not None:
        path.append(step * at)
        at = over[at]
    return list(reversed(path))
