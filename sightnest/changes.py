"""The calls 0 to 8, which change the world.

Their arguments are in range, their objects exist, and v is an actor. Each asks for
its errors in the order of their codes, so that the smallest one is answered.
"""

from sightnest.refusals import ALREADY_SO, NOT_HELD, NOT_MOVABLE, NOT_REACHED, TOO_MUCH, UNSUITABLE
from sightnest.refusals import WORLD_FULL, refused
from sightnest.sight import reaches, spaces_before
from sightnest.spaces import HANDS
from sightnest.world import HELD, HINGED, IN, LUMINOUS, NOBODY, ON, OPENED, PART, WORN, Thing

# The value of each property that set_property takes, by its number.
PROPERTY_VALUES = {3: 8, 4: 16, 5: 32, 6: 64}


def add_place(world, luminous):
    """Call 0."""
    if world.is_full():
        return refused(WORLD_FULL)
    return [0, world.new_number(Thing(NOBODY, 0, LUMINOUS * luminous, 0, 0))]


def add_object(world, h, relation, properties, bulk, capacity):
    """Call 1."""
    if world.bulk_exceeds(bulk, h, relation):
        return refused(TOO_MUCH)
    if world.is_full():
        return refused(WORLD_FULL)
    if not world.can_hold(h, relation):
        return refused(UNSUITABLE)
    return [0, world.new_number(Thing(h, relation, properties, bulk, capacity))]


def move_object(world, n, h, relation):
    """Call 2."""
    if world.is_place(n) or world.is_or_is_within(h, n):
        return refused(NOT_MOVABLE)
    if world.exceeds(n, h, relation):
        return refused(TOO_MUCH)
    if not world.can_hold(h, relation):
        return refused(UNSUITABLE)
    world.move(n, h, relation)
    return [0]


def set_property(world, n, number, wanted):
    """Call 3."""
    quality = PROPERTY_VALUES[number]
    if world.is_place(n) and quality != LUMINOUS:
        return refused(UNSUITABLE)
    world.give(n, quality, wanted)
    return [0]


def set_window(world, a, b, kind):
    """Call 4."""
    if a == b:
        return refused(NOT_MOVABLE)
    if not world.is_place(a) or not world.is_place(b):
        return refused(UNSUITABLE)
    world.replace_window(a, b, kind)
    return [0]


def belongs_elsewhere(world, v, x):
    """Whether x is a part, or held or worn by another object than v."""
    thing = world.thing(x)
    if thing.relation == PART:
        return True
    return thing.relation in (HELD, WORN) and thing.holder != v


def take(world, v, x):
    """Call 5."""
    if not reaches(world, v, x):
        return refused(NOT_REACHED)
    if world.is_place(x) or world.is_or_is_within(v, x):
        return refused(NOT_MOVABLE)
    if world.exceeds(x, v, HELD):
        return refused(TOO_MUCH)
    if belongs_elsewhere(world, v, x):
        return refused(NOT_HELD)
    world.move(x, v, HELD)
    return [0]


def holds(world, v, x):
    """Whether x is held by v."""
    return world.thing(x).holder == v and world.thing(x).relation == HELD


def can_put(world, v, h, relation):
    """Whether h can be the holder and, if something is put in it, the hands of v come into it."""
    if not world.can_hold(h, relation):
        return False
    return relation != IN or h in spaces_before(world, v, HANDS)


def put(world, v, x, h, relation):
    """Call 6."""
    if not reaches(world, v, h):
        return refused(NOT_REACHED)
    if world.is_or_is_within(h, x):
        return refused(NOT_MOVABLE)
    if world.exceeds(x, h, relation):
        return refused(TOO_MUCH)
    if not holds(world, v, x):
        return refused(NOT_HELD)
    if not can_put(world, v, h, relation):
        return refused(UNSUITABLE)
    world.move(x, h, relation)
    return [0]


def dropping_point(world, v):
    """The holder and the relation that an object gets when v drops it."""
    n = v
    while not world.is_place(n):
        thing = world.thing(n)
        if thing.relation == IN or thing.relation == ON:
            return (thing.holder, thing.relation)
        n = thing.holder
    return (n, IN)


def drop(world, v, x):
    """Call 7."""
    point = dropping_point(world, v)
    if world.exceeds(x, point[0], point[1]):
        return refused(TOO_MUCH)
    if not holds(world, v, x):
        return refused(NOT_HELD)
    world.move(x, point[0], point[1])
    return [0, point[0], point[1]]


def open_or_close(world, v, n, wanted):
    """Call 8."""
    if not reaches(world, v, n):
        return refused(NOT_REACHED)
    if not world.has(n, HINGED):
        return refused(UNSUITABLE)
    if world.has(n, OPENED) == (wanted == 1):
        return refused(ALREADY_SO)
    world.give(n, OPENED, wanted)
    return [0]


def change(world, number, given):
    """The answer of the call with this number."""
    if number == 0:
        return add_place(world, given[0])
    if number == 1:
        return add_object(world, given[0], given[1], given[2], given[3], given[4])
    if number == 2:
        return move_object(world, given[0], given[1], given[2])
    if number == 3:
        return set_property(world, given[0], given[1], given[2])
    if number == 4:
        return set_window(world, given[0], given[1], given[2])
    if number == 5:
        return take(world, given[0], given[1])
    if number == 6:
        return put(world, given[0], given[1], given[2], given[3])
    if number == 7:
        return drop(world, given[0], given[1])
    return open_or_close(world, given[0], given[1], given[2])
