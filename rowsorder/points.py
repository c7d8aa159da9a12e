"""Two rows: points of an order, turns that force one another, and the knots that bar points."""

from rowsorder.basics import every_pair, is_line, is_pair
from rowsorder.errors import NoPoints, NoRows, NoTurns
from rowsorder.orders import need_order
from rowsorder.rows import places, tell
from rowsorder.turns import are_turns, is_turn, turns


def are_points(thing, order):
    need_order(order)
    many = order[0]
    if not isinstance(thing, list) or not all([is_pair(point, many) for point in thing]):
        return False
    if not is_line(tuple([x for x, y in thing]), many) or not is_line(tuple([y for x, y in thing]), many):
        return False
    return tuple([(a, b) for a, b in every_pair(many) if is_under(thing[a], thing[b])]) == order[1]


def is_under(point, other):
    return point[0] < other[0] and point[1] < other[1]


def points_of(order, rows):
    if not tell(rows, order) or len(rows) != 2:
        raise NoRows("these are no two rows that tell the order")
    return list(zip(places(rows[0]), places(rows[1])))


def rows_of(order, points):
    if not are_points(points, order):
        raise NoPoints("these are no points of the order")
    return rows_by(points)


def rows_by(points):
    # Of a row, the places of its places are the row again.
    return [tuple(places([x for x, y in points])), tuple(places([y for x, y in points]))]


def forced(order, turn):
    need_order(order)
    if not is_turn(turn, order):
        raise NoTurns("this is no turn of the order")
    return forced_among(turn_table(order), order[0], turn)


def turn_table(order):
    return dict([(turn, True) for turn in turns(order)])


def forced_among(table, many, turn):
    # Unlike things whose turns are not in the table count as not apart.
    a = turn[0]
    b = turn[1]
    seconds = [c for c in range(many) if c != b and (b, c) not in table]
    firsts = [c for c in range(many) if c != a and (a, c) not in table]
    found = [(a, c) for c in seconds] + [(c, b) for c in firsts]
    return sorted([other for other in found if other in table])


def is_knot(thing, order):
    need_order(order)
    if not are_turns(thing, order) or len(thing) == 0 or thing[-1] != back_turn(thing[0]):
        return False
    table = turn_table(order)
    return all([thing[at] in forced_among(table, order[0], thing[at - 1]) for at in range(1, len(thing))])


def back_turn(turn):
    return (turn[1], turn[0])


def points_or_knot(order):
    need_order(order)
    table = turn_table(order)
    knot = find_knot(table, order[0])
    if knot is not None:
        return ("knot", knot)
    return ("points", points_by(order, chosen_turns(table, order[0])))


def find_knot(table, many):
    seen = {}
    for turn in table:
        # Forcing goes both ways, so what one turn of a class reaches, each of them does.
        if turn not in seen:
            came = forced_in_turn(table, many, turn)
            if back_turn(turn) in came:
                return path_to(came, back_turn(turn))
            seen.update(came)
    return None


def forced_in_turn(table, many, turn):
    came = {turn: None}
    fresh = [turn]
    while fresh:
        later = []
        for one in fresh:
            for other in forced_among(table, many, one):
                if other not in came:
                    came[other] = one
                    later.append(other)
        fresh = later
    return came


def path_to(came, turn):
    path = [turn]
    while came[path[-1]] is not None:
        path.append(came[path[-1]])
    return list(reversed(path))


def chosen_turns(table, many):
    # A class of turns is chosen whole and taken away with its back turns; what then counts as apart is less, so that
    # the classes chosen later go together with those chosen already.
    chosen = {}
    left = table
    while left:
        came = forced_in_turn(left, many, list(left)[0])
        chosen.update(came)
        left = dict([(turn, True) for turn in left if turn not in came and back_turn(turn) not in came])
    return chosen


def points_by(order, chosen):
    # In both rows a thing's place is how many stand ahead of it; the second row has the chosen turns turned.
    points = []
    for thing in range(order[0]):
        ahead = [a for a, b in order[1] if b == thing]
        firsts = [a for a, b in chosen if b == thing]
        seconds = [b for a, b in chosen if a == thing]
        points.append((len(ahead) + len(firsts), len(ahead) + len(seconds)))
    return points


def two_rows(order):
    found = points_or_knot(order)
    if found[0] == "knot":
        return None
    return rows_by(found[1])


def one_row(order):
    return len(turns(order)) == 0
