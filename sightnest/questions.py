"""The calls from 9 on, which only ask.

Their arguments are in range, and their objects exist.
"""

from sightnest.spaces import lying_space


def locate(world, n):
    """Call 9."""
    thing = world.thing(n)
    return [0, thing.holder, thing.relation, lying_space(world, n)] + world.ancestors(n)
