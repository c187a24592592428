"""The calls 9 to 19, which only ask.

Their arguments are in range, their objects exist, and v is an actor.
"""

from sightnest.proofs import accepts, generated_proof, light_path
from sightnest.refusals import UNSUITABLE, refused
from sightnest.sight import lit_spaces, reachable_of, visible_objects
from sightnest.spaces import enclosing_spaces, lying_space


def with_length(row):
    """The list behind its length."""
    return [len(row)] + row


def locate(world, n):
    """Call 9."""
    thing = world.thing(n)
    return [0, thing.holder, thing.relation, lying_space(world, n)] + world.ancestors(n)


def list_contents(world, h):
    """Call 10."""
    told = [0]
    for n in world.numbers():
        if world.thing(n).holder == h:
            told.extend([n, world.thing(n).relation])
    return told


def can_see(world, v, x):
    """Call 11."""
    proof = generated_proof(world, v, x)
    return [0, proof[0]] + with_length(proof[1]) + with_length(proof[2])


def check_proof(world, v, x, claim, p, q):
    """Call 12."""
    if accepts(world, v, x, claim, p, q):
        return [0, 1]
    return [0, 0]


def is_lit(world, h):
    """Call 13."""
    if not world.has_space(h):
        return refused(UNSUITABLE)
    if h not in lit_spaces(world):
        return [0, 0]
    return [0, 1] + light_path(world, h)


def list_visible(world, v):
    """Call 14."""
    return [0] + visible_objects(world, v)


def list_reachable(world, v):
    """Call 15."""
    return [0] + reachable_of(world, v, world.numbers())


def get_load(world, h):
    """Call 16."""
    within = [world.thing(n).bulk for n in world.numbers() if h in world.ancestors(n)]
    return [0, world.load(h), world.thing(h).capacity, len(within), sum(within)]


def until_shared(spaces, others):
    """The spaces ahead of the first one that is among the others, too."""
    found = []
    for space in spaces:
        if space in others:
            return found
        found.append(space)
    return found


def compare_spaces(world, a, b):
    """Call 17."""
    around_a = enclosing_spaces(world, a)
    around_b = enclosing_spaces(world, b)
    same = 1 if around_a[-1] == around_b[-1] else 0
    return [0, same] + with_length(until_shared(around_a, around_b)) + with_length(until_shared(around_b, around_a))


def get_properties(world, n):
    """Call 18."""
    thing = world.thing(n)
    return [0, thing.properties, thing.bulk, thing.capacity]


def list_windows(world):
    """Call 19."""
    told = [0]
    for window in world.windows:
        told.extend([window.first, window.second, window.kind])
    return told


def tell(world, number, given):
    """The answer of the call with this number."""
    if number == 9:
        return locate(world, given[0])
    if number == 10:
        return list_contents(world, given[0])
    if number == 11:
        return can_see(world, given[0], given[1])
    if number == 12:
        return check_proof(world, given[0], given[1], given[2], given[3], given[4])
    if number == 13:
        return is_lit(world, given[0])
    if number == 14:
        return list_visible(world, given[0])
    if number == 15:
        return list_reachable(world, given[0])
    if number == 16:
        return get_load(world, given[0])
    if number == 17:
        return compare_spaces(world, given[0], given[1])
    if number == 18:
        return get_properties(world, given[0])
    return list_windows(world)
