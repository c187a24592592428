"""Spaces, and the paths on which light, sight and hands pass between them."""

from sightnest.world import IN, OPENED, TRANSPARENT

LIGHT = 1
SIGHT = 2
HANDS = 3

GLASS_WINDOW = 1
OPEN_WINDOW = 2


def lying_space(world, n):
    """The space in which n lies."""
    while not world.is_place(n):
        thing = world.thing(n)
        n = thing.holder
        if thing.relation == IN:
            return n
    return n


def meeting_spaces(world, n):
    """The spaces in which n is met: first the one in which it lies, then its own."""
    if world.is_box(n):
        return [lying_space(world, n), n]
    return [lying_space(world, n)]


def wall_passes(world, n, ray):
    """Whether light, sight or hands (the ray) pass the wall of the container n."""
    if world.has(n, OPENED):
        return True
    return ray != HANDS and world.has(n, TRANSPARENT)


def window_passes(window, ray):
    """Whether the ray passes from the first place of the window into the second one."""
    return window.kind == OPEN_WINDOW or ray != HANDS


def window_passes_back(window, ray):
    """Whether the ray passes from the second place of the window into the first one."""
    if window.kind == OPEN_WINDOW:
        return True
    return ray == LIGHT or (ray == SIGHT and window.kind == GLASS_WINDOW)


def link_table(world, ray):
    """For each number the spaces, in ascending order, to which it is linked for the ray."""
    table = [[] for n in range(len(world.things) + 1)]
    for n in world.numbers():
        if world.is_box(n) and wall_passes(world, n, ray):
            outside = lying_space(world, n)
            table[n].append(outside)
            table[outside].append(n)
    for window in world.windows:
        if window_passes(window, ray):
            table[window.first].append(window.second)
        if window_passes_back(window, ray):
            table[window.second].append(window.first)
    return [sorted(row) for row in table]


def next_level(links, level, found):
    """The spaces to which the level is linked and which are not found yet, in ascending order."""
    linked = []
    for space in level:
        for other in links[space]:
            if other not in found and other not in linked:
                linked.append(other)
    return sorted(linked)


def spaces_from(world, sources, ray):
    """All spaces to which a path of the ray leads from the sources, ordered by levels."""
    links = link_table(world, ray)
    found = list(sources)
    level = list(sources)
    while level:
        level = next_level(links, level, found)
        found.extend(level)
    return found
