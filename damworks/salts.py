"""Salt in the water of a dam: all water mixes in each month, and what is released takes its salt along."""

from damworks.dams import check_dam, check_plan, levels_behind
from damworks.errors import BadSalt, BadSalts
from damworks.ratios import divided, is_between, is_row_between, plus, times

MOST_SALT = 1000


def check_salty(dam, plan, salts, first):
    """Raise the error of the first argument that is wrong."""
    check_dam(dam)
    check_plan(dam, plan)
    if not (is_row_between(salts, 0, MOST_SALT) and len(salts) == len(dam[3])):
        raise BadSalts("not a tuple of salts, one for each month")
    if not is_between(first, 0, MOST_SALT):
        raise BadSalt("not the salt of what is held at first")


def salt_run(dam, plan, salts, first):
    """The salt in a unit of water in each month."""
    check_salty(dam, plan, salts, first)
    _, start, _, inflows = dam
    held = (start, 1)
    salt = (start * first, 1)
    mixed = []
    for inflow, coming, behind in zip(inflows, salts, levels_behind(dam, plan)):
        water = plus(held, (inflow, 1))
        salt = plus(salt, (inflow * coming, 1))
        mixed.append((0, 1) if water == (0, 1) else divided(salt, water))
        held = behind
        salt = times(mixed[-1], held)
    return tuple(mixed)


def salt_left(dam, plan, salts, first):
    """The salt that is held in the end."""
    mixed = salt_run(dam, plan, salts, first)
    return times(mixed[-1], levels_behind(dam, plan)[-1])
