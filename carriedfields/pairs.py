"""Lives, and pairs of objects that get the same calls (points 23 and 27 to 30)."""

from carriedfields.errors import BadJoint, BadPassage
from carriedfields.joints import Lives, behind_step, canonical_joint, first_joint, is_joint, steps_in


class Life:
    """A kind with or without a route."""

    def __init__(self, shape, route=None):
        if route is not None and route.shape != shape:
            raise BadPassage("shape")
        self.shape = shape
        self.route = route
        # A route into another kind can be gone through only once.
        self.can_move = route is not None and route.into != shape

    def __eq__(self, other):
        return isinstance(other, Life) and self.shape == other.shape and self.route == other.route


class Pair:
    """An object of each of two lives, both new at first."""

    def __init__(self, one, other, *, callers=None):
        self.lives = Lives(one, other, callers)
        self.here = first_joint(self.lives)
        self.world = self.here

    @classmethod
    def set_up(cls, one, other, joint, *, callers=None):
        """A pair with the values of a joint world."""
        pair = cls(one, other, callers=callers)
        if not is_joint(pair.lives, joint):
            raise BadJoint(joint)
        pair.here = joint
        pair.world = joint
        return pair

    @property
    def joint(self):
        """The joint world in which the objects stand."""
        return self.world

    @property
    def states(self):
        """The states of the two objects."""
        (values, _), (others, _), within, _ = self.here
        return ((values, within), (others, within))

    def steps(self):
        """The steps of the callers, in order."""
        found = steps_in(self.lives, self.here)
        for step in found:
            yield step

    def do(self, step):
        """What the callers see of the reports of a call; None for a pass."""
        sights, self.here = behind_step(self.lives, self.here, step)
        self.world = canonical_joint(self.here)
        return sights

    def play(self, history):
        """What do returns for each step of a history, a list."""
        here = self.here
        told = []
        for step in history:
            sights, here = behind_step(self.lives, here, step)
            told.append(sights)
        self.here = here
        self.world = canonical_joint(here)
        return told
