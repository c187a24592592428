"""Spaces, and the walls and windows through which light, sight and hands pass between them."""

from sightnest.world import IN, MOST_OBJECTS, OPENED, TRANSPARENT

LIGHT = 1
SIGHT = 2
HANDS = 3

GLASS_WINDOW = 1
OPEN_WINDOW = 2


def lying_space(world, n):
    """The space in which n lies."""
    while not world.is_place(n):
        thing = world.thing(n)
        n = thing.holder
        if thing.relation == IN:
            return n
    return n


def meeting_spaces(world, n):
    """The spaces in which n is met: first the one in which it lies, then its own."""
    if world.is_box(n):
        return [lying_space(world, n), n]
    return [lying_space(world, n)]


def enclosing_spaces(world, n):
    """The space in which n lies, the one in which that container lies, and so on up to a place."""
    space = lying_space(world, n)
    found = [space]
    while not world.is_place(space):
        space = lying_space(world, space)
        found.append(space)
    return found


def wall_passes(world, n, ray):
    """Whether light, sight or hands (the ray) pass the wall of the container n."""
    if world.has(n, OPENED):
        return True
    return ray != HANDS and world.has(n, TRANSPARENT)


def window_passes(window, ray):
    """Whether the ray passes from the first place of the window into the second one."""
    return window.kind == OPEN_WINDOW or ray != HANDS


def window_passes_back(window, ray):
    """Whether the ray passes from the second place of the window into the first one."""
    if window.kind == OPEN_WINDOW:
        return True
    return ray == LIGHT or (ray == SIGHT and window.kind == GLASS_WINDOW)


def link_table(world, ray):
    """For each number up to 60 the spaces to which it is linked for the ray.

    A number that is not a space, or not even an object, has an empty row.
    """
    table = [[] for n in range(MOST_OBJECTS + 1)]
    for n in world.numbers():
        if world.is_box(n) and wall_passes(world, n, ray):
            outside = lying_space(world, n)
            table[n].append(outside)
            table[outside].append(n)
    for window in world.windows:
        if window_passes(window, ray):
            table[window.first].append(window.second)
        if window_passes_back(window, ray):
            table[window.second].append(window.first)
    return table
