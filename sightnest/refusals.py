"""The error codes, without their sign."""

OUT_OF_RANGE = 1
NO_SUCH_OBJECT = 2
NOT_AN_ACTOR = 3
NOT_REACHED = 4
NOT_MOVABLE = 5
TOO_MUCH = 6
WORLD_FULL = 7
NOT_HELD = 8
UNSUITABLE = 9
ALREADY_SO = 10


def refused(code):
    """The answer of a failed call."""
    return [-code]
