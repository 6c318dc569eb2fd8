"""Products in a free product of cyclic groups, as lists of steps (place, exponent).

orders tells the order of the group at each place, 0 for an endless one.
"""


def normal_exponent(exponent, order):
    """The exponent as paths have it: any number for an endless group, from 0 to order - 1 otherwise."""
    if order == 0:
        return exponent
    return exponent % order


def add_step(steps, place, exponent, orders):
    """Multiply the product, told by steps of unlike neighbours, by one more power."""
    if steps and steps[-1][0] == place:
        exponent += steps.pop()[1]
    exponent = normal_exponent(exponent, orders[place])
    if exponent != 0:
        steps.append((place, exponent))


def inverse_steps(steps, orders):
    """The steps of the inverse."""
    return [(place, normal_exponent(-exponent, orders[place])) for place, exponent in steps[::-1]]


def core_of(steps, orders):
    """(outer, core): the product is outer * core * (the inverse of outer), and core cannot be shortened so.

    That is, core has at most one step, or its first and last place are unlike.
    """
    outer = []
    core = list(steps)
    while len(core) > 1 and core[0][0] == core[-1][0]:
        first = core[0]
        outer.append(first)
        core = core[1:]
        add_step(core, first[0], first[1], orders)
    return outer, core


def turning_from(core, other):
    """A number of steps that, taken from the beginning of core to its end, makes it other; None if none does."""
    if len(core) != len(other):
        return None
    for count in range(max(1, len(core))):
        if core[count:] + core[:count] == other:
            return count
    return None
