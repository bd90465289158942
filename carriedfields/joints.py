"""Two lives side by side: joint worlds, what callers see, and where steps lead (points 28 to 30)."""

from carriedfields.errors import BadStep, NotNow, UnlikeFaces
from carriedfields.executing import can_call, is_call, outcome
from carriedfields.renaming import Renaming
from carriedfields.values import has_number, is_values
from carriedfields.words import is_integer
from carriedfields.worlds import calls_of, some_callers

PASS = ("pass",)


class Lives:
    """Two lives with one face, and their callers."""

    def __init__(self, one, other, callers):
        if one.shape.face != other.shape.face:
            raise UnlikeFaces()
        self.one = one
        self.other = other
        self.callers = some_callers(callers)


def first_joint(lives):
    """The joint world of two new objects."""
    return ((lives.one.shape.firsts, False), (lives.other.shape.firsts, False), False, lives.callers.times)


def canonical_joint(here):
    """The joint world in which two objects stand."""
    (values, is_moved), (others, is_other_moved), within, left = here
    renaming = Renaming()
    new_values = tuple([renaming.new_value(value, 0) for value in values])
    new_others = tuple([renaming.new_value(value, 1) for value in others])
    return ((new_values, is_moved), (new_others, is_other_moved), within, left)


def shape_at(life, is_moved):
    """The shape of the object of a life."""
    return life.route.into if is_moved else life.shape


def is_side(life, value):
    """Whether any value is what a joint world says of the object of a life, canonical or not."""
    if not isinstance(value, tuple) or len(value) != 2 or not isinstance(value[1], bool):
        return False
    if value[1] and not life.can_move:
        return False
    return is_values(shape_at(life, value[1]), value[0])


def is_left(value, times):
    """Whether any value says how many of so many passages are left."""
    if times is None:
        return value is None
    return is_integer(value) and 0 <= value <= times


def is_joint(lives, value):
    """Whether any value is a joint world."""
    if not isinstance(value, tuple) or len(value) != 4:
        return False
    if not is_side(lives.one, value[0]) or not is_side(lives.other, value[1]):
        return False
    if not isinstance(value[2], bool) or not is_left(value[3], lives.callers.times):
        return False
    return canonical_joint(value) == value


def calls_in(lives, here):
    """The calls of the callers where two objects stand, a list."""
    (values, _), (others, _), within, _ = here
    return calls_of(lives.one.shape, (values + others, within), lives.callers)


def steps_in(lives, here):
    """The steps of the callers where two objects stand, a list."""
    calls = calls_in(lives, here)
    return calls if behind_pass(lives, here) is None else calls + [PASS]


def seen(report, look):
    """What callers see of a report."""
    word, value = report
    if not has_number(value):
        return report
    content, number = value
    if look == "equal":
        return (word, ("thing", content))
    return (word, ("thing", content, max(number, -1)))


def behind_call(lives, here, call):
    """What the callers see of a possible call, and where it leads the objects; where it parts them they stay."""
    (values, is_moved), (others, is_other_moved), within, left = here
    name, things = call[1], call[2:]
    one, (values, is_within) = outcome(shape_at(lives.one, is_moved), (values, within), name, things)
    other, (others, _) = outcome(shape_at(lives.other, is_other_moved), (others, within), name, things)
    sights = (seen(one, lives.callers.look), seen(other, lives.callers.look))
    if do_part(sights):
        return (sights, here)
    # Callers always see a refusal, so both objects are within or none is.
    return (sights, ((values, is_moved), (others, is_other_moved), is_within, left))


def do_part(sights):
    """Whether what the callers see of two reports differs."""
    return sights[0] != sights[1]


def passed(life, values):
    """What the route of a life makes of an object that has not moved, or None if this is not possible."""
    route = life.route
    if route is None:
        return (values, False)
    try:
        return (route(values), life.can_move)
    except NotNow:
        return None


def behind_pass(lives, here):
    """Where a pass leads, or None if it is not possible."""
    (values, is_moved), (others, is_other_moved), within, left = here
    if lives.one.route is None and lives.other.route is None:
        return None
    if is_moved or is_other_moved or within or left == 0:
        return None
    one = passed(lives.one, values)
    other = passed(lives.other, others)
    if one is None or other is None:
        return None
    return (one, other, within, None if left is None else left - 1)


def is_step(lives, value):
    """Whether any value is a step, at whatever moment it may be possible."""
    return value == PASS or is_call(lives.one.shape, value)


def behind_step(lives, here, step):
    """What the callers see of any step, and where it leads."""
    if not is_step(lives, step):
        raise BadStep(step)
    if step != PASS:
        if not can_call(lives.one.shape, step[1], here[2]):
            raise NotNow(step[1])
        return behind_call(lives, here, step)
    there = behind_pass(lives, here)
    if there is None:
        raise NotNow("pass")
    return (None, there)
