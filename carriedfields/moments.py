"""The moments at which a passage may come without being noticed (point 32)."""

from carriedfields.certificates import Ways, certificate, is_certificate
from carriedfields.errors import BadState
from carriedfields.joints import Lives, canonical_joint, passed
from carriedfields.pairs import Life
from carriedfields.values import has_number, is_state
from carriedfields.worlds import MOST, Callers, Worlds, some_callers


def without_passages(callers):
    """Callers that are alike, but before whom no passage comes."""
    some = some_callers(callers)
    return Callers(times=0, look=some.look, methods=some.methods, fresh=some.fresh)


def ways_beside(route, callers):
    """The ways of an object that stays as it is, beside one that went through a route."""
    return Ways(Lives(Life(route.shape), Life(route.shape, route), without_passages(callers)), {})


def joint_behind(lives, world):
    """The joint world of an object at a world and of the one that the route makes of it, or None."""
    values, is_within = world
    other = None if is_within else passed(lives.other, values)
    if other is None:
        return None
    return canonical_joint(((values, False), other, False, 0))


def entry_of(ways, world, most):
    """A world with a certificate for the passage there, or with None if it is not possible."""
    start = joint_behind(ways.lives, world)
    return (world, None if start is None else certificate(ways, start, most))


def is_entry(ways, world, entry):
    """Whether any value is a right entry of a world."""
    if not isinstance(entry, tuple) or len(entry) != 2:
        return False
    if not is_state(ways.lives.one.shape, entry[0]) or entry[0] != world:
        return False
    start = joint_behind(ways.lives, world)
    return entry[1] is None if start is None else is_certificate(ways, start, entry[1])


def sort_of(value):
    """What a pattern says of a value."""
    if not isinstance(value, tuple):
        return value
    return "thing" if has_number(value) else "made"


def pattern_of(state):
    """The pattern of what is a state."""
    values, is_within = state
    return (*[sort_of(value) for value in values], is_within)


def pattern(shape, state):
    """The pattern of a state."""
    if not is_state(shape, state):
        raise BadState(state)
    return pattern_of(state)


class Moments:
    """For each world of a kind whether anybody notices that an object goes through a route there."""

    def __init__(self, route, *, callers=None, most=MOST):
        worlds = Worlds(route.shape, callers=callers, most=most)
        ways = ways_beside(route, callers)
        self.entries = tuple([entry_of(ways, worlds[k], most) for k in range(len(worlds))])

    def __len__(self):
        return len(self.entries)

    def safe(self):
        """The patterns at whose worlds the route is possible and never noticed."""
        found = {}
        for world, paper in self.entries:
            key = pattern_of(world)
            found[key] = found.get(key, True) and paper is not None and paper[0] == "alike"
        return tuple([key for key, is_safe in found.items() if is_safe])


def is_moments(route, thing, *, callers=None, most=MOST):
    """Whether any value is a tuple of right entries for all worlds of the shape of a route."""
    worlds = Worlds(route.shape, callers=callers, most=most)
    if not isinstance(thing, tuple) or len(thing) != len(worlds):
        return False
    ways = ways_beside(route, callers)
    for k, entry in enumerate(thing):
        if not is_entry(ways, worlds[k], entry):
            return False
    return True
