"""The arguments of each call, their ranges, and the errors common to all calls."""

from sightnest.refusals import NO_SUCH_OBJECT, NOT_AN_ACTOR, OUT_OF_RANGE
from sightnest.world import ACTOR, MOST_OBJECTS

# The place of a row is the number of its call.
ARGUMENTS = (
    ("flag",),
    ("h", "relation", "properties", "bulk", "capacity"),
    ("n", "h", "relation"),
    ("n", "property", "flag"),
    ("a", "b", "kind"),
    ("v", "x"),
    ("v", "x", "h", "in_or_on"),
    ("v", "x"),
    ("v", "n", "flag"),
    ("n",),
    ("h",),
    ("v", "x"),
    ("v", "x", "answer", "p", "q"),
    ("h",),
    ("v",),
    ("v",),
    ("h",),
    ("a", "b"),
    ("n",),
    (),
)

OBJECTS = ("n", "h", "v", "x", "a", "b")

# These arguments are lists, each handed in behind its length.
LISTS = ("p", "q")
MOST_IN_LIST = 60

RANGES = {
    "n": (1, 60),
    "h": (1, 60),
    "v": (1, 60),
    "x": (1, 60),
    "a": (1, 60),
    "b": (1, 60),
    "relation": (1, 5),
    "in_or_on": (1, 2),
    "properties": (0, 127),
    "bulk": (0, 1000000),
    "capacity": (0, 1000000),
    "flag": (0, 1),
    "property": (3, 6),
    "kind": (0, 3),
    "answer": (0, 1),
}


def next_call(calls, at):
    """The arguments of the call that begins at this place, and the place where the next one begins."""
    given = []
    end = at + 1
    for name in ARGUMENTS[calls[at]]:
        if name in LISTS:
            start = end + 1
            end = start + calls[end]
            given.append(calls[start:end])
        else:
            given.append(calls[end])
            end = end + 1
    return (given, end)


def is_outside(name, value):
    """Whether the value is outside the range of the argument with this name."""
    if name in LISTS:
        return len(value) > MOST_IN_LIST or any([n < 1 or n > MOST_OBJECTS for n in value])
    return value < RANGES[name][0] or value > RANGES[name][1]


def leaves_range(number, given):
    """Whether an argument is outside its range."""
    return any([is_outside(name, value) for name, value in zip(ARGUMENTS[number], given)])


def names_no_object(world, number, given):
    """Whether one of the objects doesn't exist."""
    for name, value in zip(ARGUMENTS[number], given):
        if name in OBJECTS and not world.exists(value):
            return True
    return False


def lacks_actor(world, number, given):
    """Whether there is an argument v that is not an actor."""
    for name, value in zip(ARGUMENTS[number], given):
        if name == "v" and not world.has(value, ACTOR):
            return True
    return False


def common_error(world, number, given):
    """The code of the common error that applies first, or 0 if none does."""
    if leaves_range(number, given):
        return OUT_OF_RANGE
    if names_no_object(world, number, given):
        return NO_SUCH_OBJECT
    if lacks_actor(world, number, given):
        return NOT_AN_ACTOR
    return 0
