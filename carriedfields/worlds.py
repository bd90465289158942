"""Callers, and the worlds that their calls reach (points 24 to 27)."""

from carriedfields.errors import BadCallers, BadState, BadStep, TooMany
from carriedfields.executing import is_call, is_possible, outcome
from carriedfields.renaming import arguments_for, canonical
from carriedfields.values import is_state
from carriedfields.words import is_integer, is_word

MOST = 400
LOOKS = ("equal", "same")


class Callers:
    """Who calls: how many passages may come, how answers are looked at, and what is called with which things."""

    def __init__(self, *, times=None, look="equal", methods=None, fresh=False):
        if times is not None and not (is_integer(times) and times >= 0):
            raise BadCallers("times")
        if look not in LOOKS:
            raise BadCallers("look")
        if methods is not None and not are_words(methods):
            raise BadCallers("methods")
        if not isinstance(fresh, bool):
            raise BadCallers("fresh")
        self.times = times
        self.look = look
        self.methods = methods
        self.fresh = fresh

    def __eq__(self, other):
        return (
            isinstance(other, Callers)
            and self.times == other.times
            and self.look == other.look
            and self.methods == other.methods
            and self.fresh == other.fresh
        )


def are_words(value):
    """Whether any value is a tuple of words."""
    return isinstance(value, tuple) and all([is_word(word) for word in value])


def some_callers(callers):
    """The callers, or those without restrictions for None."""
    return Callers() if callers is None else callers


def calls_of(shape, state, callers):
    """The calls at a state, a list."""
    values, within = state
    methods, marks = shape.face
    found = []
    for name, count, _, role in methods:
        is_called = callers.methods is None or name in callers.methods
        if is_called and is_possible(role, within):
            arguments = arguments_for(count, values, marks, callers.fresh)
            found.extend([("call", name, *things) for things in arguments])
    return found


def calls_at(shape, state, *, callers=None):
    """The calls at a state, in order."""
    if not is_state(shape, state):
        raise BadState(state)
    calls = calls_of(shape, state, some_callers(callers))
    for call in calls:
        yield call


def canonical_state(state):
    """The world of what is a state."""
    return (canonical(state[0]), state[1])


def world_of(shape, state):
    """The world of a state."""
    if not is_state(shape, state):
        raise BadState(state)
    return canonical_state(state)


def state_behind(shape, state, call):
    """The state to which a call leads from a state."""
    return outcome(shape, state, call[1], call[2:])[1]


def search(shape, callers, most):
    """The worlds that callers reach, in order, and for each the one it was found from with the index of the call."""
    found = [canonical_state((shape.firsts, False))]
    ways = {found[0]: (0, 0)}
    at = 0
    while at < len(found):
        here = found[at]
        calls = calls_of(shape, here, callers)
        for index, call in enumerate(calls):
            world = canonical_state(state_behind(shape, here, call))
            if world not in ways:
                if len(found) >= most:
                    raise TooMany("worlds")
                found.append(world)
                ways[world] = (at, index)
        at += 1
    return (found, [ways[world] for world in found])


class Worlds:
    """The worlds of a kind that callers reach, in the order in which a search finds them."""

    def __init__(self, shape, *, callers=None, most=MOST):
        self.shape = shape
        self.callers = some_callers(callers)
        found, ways = search(shape, self.callers, most)
        self.found = found
        self.ways = ways
        self.places = {world: at for at, world in enumerate(found)}

    def __len__(self):
        return len(self.found)

    def __getitem__(self, k):
        return self.found[k]

    def __iter__(self):
        raise TypeError("worlds are not iterated over: take each one by its index")

    def __contains__(self, state):
        return is_state(self.shape, state) and state in self.places

    def indexes_to(self, k):
        """A shortest way from the first world to this one: for each world on it the index of the call there."""
        indexes = []
        while k > 0:
            k, index = self.ways[k]
            indexes.append(index)
        return list(reversed(list(indexes)))

    def depth(self, k):
        """The least number of calls that lead to a world."""
        return len(self.indexes_to(k))

    def history(self, k):
        """Calls that these callers may make in a new run, and which lead it to a state with this world."""
        state = (self.shape.firsts, False)
        found = []
        # Renaming keeps the order of calls, so a call has the same index at a state and at its world.
        for index in self.indexes_to(k):
            call = calls_of(self.shape, state, self.callers)[index]
            found.append(call)
            state = state_behind(self.shape, state, call)
        return tuple(found)

    def after(self, k, call):
        """The index of the world to which one of the calls at a world leads."""
        here = self.found[k]
        if not is_call(self.shape, call) or call not in calls_of(self.shape, here, self.callers):
            raise BadStep(call)
        return self.places[canonical_state(state_behind(self.shape, here, call))]
