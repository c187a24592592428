"""The paths on which a ray comes from some spaces, the sources, to others."""

from sightnest.spaces import link_table


def next_level(links, level, found):
    """The spaces to which the level is linked and which are not found yet, in ascending order."""
    linked = []
    for space in level:
        linked.extend([other for other in links[space] if other not in found])
    return sorted(set(linked))


def levels_from(links, sources):
    """All spaces to which a path leads from the sources, level by level."""
    levels = []
    found = list(sources)
    level = list(sources)
    while level:
        levels.append(level)
        level = next_level(links, level, found)
        found.extend(level)
    return levels


def spaces_from(world, sources, ray):
    """All spaces to which a path of the ray leads from the sources, ordered by levels."""
    found = []
    for level in levels_from(link_table(world, ray), sources):
        found.extend(level)
    return found


def canonical_path(world, sources, ray, goal):
    """The canonical path of the ray from the sources to the goal, which is in one of the levels."""
    links = link_table(world, ray)
    passed = []
    for level in levels_from(links, sources):
        if goal in level:
            break
        passed.append(level)
    path = [goal]
    for level in reversed(passed):
        before = [space for space in level if path[0] in links[space]]
        path.insert(0, before[0])
    return path


def is_path(world, path, ray):
    """Whether each number of the path except the last one is linked to the next one for the ray."""
    links = link_table(world, ray)
    return all([after in links[before] for before, after in zip(path, path[1:])])


def no_link_leaves(world, numbers, ray):
    """Whether every space to which one of the numbers is linked for the ray is among the numbers."""
    links = link_table(world, ray)
    for n in numbers:
        if any([space not in numbers for space in links[n]]):
            return False
    return True
