"""The proofs of what an actor sees and doesn't see: how they are made, and how they are checked."""

from sightnest.paths import canonical_path, is_path, no_link_leaves, spaces_from
from sightnest.sight import light_sources, lit_spaces_before, meetings, spaces_before
from sightnest.spaces import LIGHT, SIGHT, lying_space, meeting_spaces


def light_path(world, space):
    """The canonical path of light to a lit space."""
    return canonical_path(world, light_sources(world), LIGHT, space)


def positive_lists(world, v, space):
    """The lists p and q that prove that v sees what is met in the space."""
    return (canonical_path(world, [lying_space(world, v)], SIGHT, space), light_path(world, space))


def negative_lists(world, v, x):
    """The lists p and q that prove that v doesn't see x."""
    before = spaces_before(world, v, SIGHT)
    return (before, spaces_from(world, meetings(world, x, before), LIGHT))


def generated_proof(world, v, x):
    """Whether v sees x (1 or 0), and the lists p and q that prove it."""
    seen_in = meetings(world, x, lit_spaces_before(world, v))
    if seen_in:
        lists = positive_lists(world, v, seen_in[0])
        return (1, lists[0], lists[1])
    lists = negative_lists(world, v, x)
    return (0, lists[0], lists[1])


def accepts_positive(world, v, x, p, q):
    """Whether p and q are accepted as a proof that v sees x."""
    if not p or not q:
        return False
    if p[0] != lying_space(world, v) or q[0] not in light_sources(world):
        return False
    if p[-1] != q[-1] or p[-1] not in meeting_spaces(world, x):
        return False
    return is_path(world, p, SIGHT) and is_path(world, q, LIGHT)


def accepts_negative(world, v, x, p, q):
    """Whether p and q are accepted as a proof that v doesn't see x."""
    if lying_space(world, v) not in p:
        return False
    if any([space not in q for space in meetings(world, x, p)]):
        return False
    if any([space in q for space in light_sources(world)]):
        return False
    return no_link_leaves(world, p, SIGHT) and no_link_leaves(world, q, LIGHT)


def accepts(world, v, x, answer, p, q):
    """Whether the checker accepts the proof of this answer."""
    if answer == 1:
        return accepts_positive(world, v, x, p, q)
    return accepts_negative(world, v, x, p, q)
