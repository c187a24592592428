"""The interface: a list of calls, and the list of their answers."""

from sightnest.arguments import common_error, next_call
from sightnest.changes import change
from sightnest.questions import tell
from sightnest.refusals import refused
from sightnest.world import World

# The calls from this one on only ask.
FIRST_QUESTION = 9


def answer(world, number, given):
    """What one call answers: its error code alone, or 0 and its fields."""
    code = common_error(world, number, given)
    if code != 0:
        return refused(code)
    if number >= FIRST_QUESTION:
        return tell(world, number, given)
    return change(world, number, given)


def answers(calls):
    """What the calls answer on a new world: for each, how many numbers, and these."""
    world = World()
    told = []
    at = 0
    while at < len(calls):
        taken = next_call(calls, at)
        answered = answer(world, calls[at], taken[0])
        told.append(len(answered))
        told.extend(answered)
        at = taken[1]
    return told
