"""Things apart together, chains of an order, and for each chain a row that has it late."""

from rowsorder.basics import is_below
from rowsorder.errors import NoChain
from rowsorder.orders import are_apart, need_order
from rowsorder.rows import masks_ahead, row_along


def most_apart(order):
    need_order(order)
    groups = [[thing] for thing in range(order[0])]
    longer = groups
    # Grown by a greater thing each, lists stay in their order, so the first of the longest is the one asked for.
    while longer:
        groups = longer
        longer = longer_groups(order, groups)
    return groups[0]


def longer_groups(order, groups):
    grown = []
    for group in groups:
        for thing in range(group[-1] + 1, order[0]):
            if all([are_apart(order, one, thing) for one in group]):
                grown.append(group + [thing])
    return grown


def chains(order):
    need_order(order)
    return chains_from(order, len(most_apart(order)), [], 0)


def chains_from(order, most, made, thing):
    # Things come rising, so each chain rises, and chains rise by their first things.
    if thing == order[0]:
        return made
    for at, chain in enumerate(made):
        if fits(order, chain, thing):
            found = chains_from(order, most, made[:at] + [chain + [thing]] + made[at + 1:], thing + 1)
            if found is not None:
                return found
    if len(made) == most:
        return None
    return chains_from(order, most, made + [[thing]], thing + 1)


def fits(order, chain, thing):
    return not any([are_apart(order, one, thing) for one in chain])


def is_chain(thing, order):
    if not isinstance(thing, list) or len(thing) == 0:
        return False
    # Only whole numbers may reach the set: a list or a dict can't stand in one.
    if not all([is_below(one, order[0]) for one in thing]) or thing != sorted(set(thing)):
        return False
    return all([fits(order, thing, one) for one in thing])


def are_chains(thing, order):
    need_order(order)
    if not isinstance(thing, list) or not all([is_chain(chain, order) for chain in thing]):
        return False
    held = []
    for chain in thing:
        held.extend(chain)
    return sorted(held) == list(range(order[0]))


def chain_row(order, chain):
    need_order(order)
    if not is_chain(chain, order):
        raise NoChain("this is no chain of the order")
    # Where only a thing of the chain is free, whatever is left is behind it: what is apart stands already.
    return row_along(masks_ahead(order), chain)


def chain_rows(order):
    return [chain_row(order, chain) for chain in chains(order)]
