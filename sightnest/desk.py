"""The interface: a list of calls, and the list of their answers."""

from sightnest.arguments import argument_count, common_error
from sightnest.changes import change
from sightnest.questions import locate
from sightnest.refusals import refused
from sightnest.world import World

LOCATE = 9


def answer(world, number, given):
    """What one call answers: its error code alone, or 0 and its fields."""
    code = common_error(world, number, given)
    if code != 0:
        return refused(code)
    if number == LOCATE:
        return locate(world, given[0])
    return change(world, number, given)


def answers(calls):
    """What the calls answer on a new world: for each, how many numbers, and these."""
    world = World()
    told = []
    at = 0
    while at < len(calls):
        end = at + 1 + argument_count(calls[at])
        answered = answer(world, calls[at], calls[at + 1:end])
        told.append(len(answered))
        told.extend(answered)
        at = end
    return told
