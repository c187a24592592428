"""What is lit, and what an actor sees, carries and reaches."""

from sightnest.paths import spaces_from
from sightnest.spaces import HANDS, LIGHT, SIGHT, lying_space, meeting_spaces
from sightnest.world import IN, LUMINOUS


def light_sources(world):
    """The spaces in which a luminous object lies, in ascending order."""
    luminous = [n for n in world.numbers() if world.has(n, LUMINOUS)]
    return sorted(set([lying_space(world, n) for n in luminous]))


def lit_spaces(world):
    """All spaces that are lit."""
    return spaces_from(world, light_sources(world), LIGHT)


def spaces_before(world, v, ray):
    """All spaces to which a path of the ray leads from the space in which v lies, ordered by levels."""
    return spaces_from(world, [lying_space(world, v)], ray)


def lit_spaces_before(world, v):
    """The lit spaces to which a path of sight leads from the space in which v lies."""
    lit = lit_spaces(world)
    return [space for space in spaces_before(world, v, SIGHT) if space in lit]


def meetings(world, x, spaces):
    """Those of the spaces in which x is met: first the one in which it lies, then its own."""
    return [space for space in meeting_spaces(world, x) if space in spaces]


def visible_objects(world, v):
    """All objects that the actor v sees, in ascending order."""
    visible = lit_spaces_before(world, v)
    return [x for x in world.numbers() if meetings(world, x, visible)]


def carries(world, v, x):
    """Whether the actor v carries x."""
    while x != v:
        thing = world.thing(x)
        if world.is_place(x) or thing.relation == IN:
            return False
        x = thing.holder
    return True


def reachable_of(world, v, numbers):
    """Those of the objects with these numbers that the actor v reaches."""
    near = spaces_before(world, v, HANDS)
    visible = lit_spaces_before(world, v)
    touched = [x for x in numbers if meetings(world, x, near)]
    return [x for x in touched if meetings(world, x, visible) or carries(world, v, x)]


def reaches(world, v, x):
    """Whether the actor v reaches x."""
    return x in reachable_of(world, v, [x])
