"""What is lit, and what an actor sees, carries and reaches."""

from sightnest.spaces import HANDS, LIGHT, SIGHT, lying_space, meeting_spaces, spaces_from
from sightnest.world import IN, LUMINOUS


def light_sources(world):
    """The spaces in which a luminous object lies, in ascending order."""
    luminous = [n for n in world.numbers() if world.has(n, LUMINOUS)]
    return sorted(set([lying_space(world, n) for n in luminous]))


def lit_spaces(world):
    """All spaces that are lit."""
    return spaces_from(world, light_sources(world), LIGHT)


def spaces_before(world, v, ray):
    """All spaces to which a path of the ray leads from the space in which v lies."""
    return spaces_from(world, [lying_space(world, v)], ray)


def sees(world, v, x):
    """Whether the actor v sees x."""
    lit = lit_spaces(world)
    before = spaces_before(world, v, SIGHT)
    return any([space in lit and space in before for space in meeting_spaces(world, x)])


def carries(world, v, x):
    """Whether the actor v carries x."""
    while x != v:
        thing = world.thing(x)
        if world.is_place(x) or thing.relation == IN:
            return False
        x = thing.holder
    return True


def touches(world, v, x):
    """Whether a path of hands leads from the space in which v lies to one in which x is met."""
    before = spaces_before(world, v, HANDS)
    return any([space in before for space in meeting_spaces(world, x)])


def reaches(world, v, x):
    """Whether the actor v reaches x."""
    return touches(world, v, x) and (carries(world, v, x) or sees(world, v, x))
