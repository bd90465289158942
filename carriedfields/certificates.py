"""Certificates: the search for one, and what makes one right (point 31)."""

from carriedfields.errors import TooMany
from carriedfields.executing import can_call
from carriedfields.joints import (
    PASS, behind_call, behind_pass, calls_in, canonical_joint, do_part, is_joint, is_step, steps_in,
)
from carriedfields.values import has_number

# A pass is always the last one of the steps.
LAST = -1


class Ways:
    """Where the steps at the joint worlds of two lives lead; what calls do is found out once and kept in known."""

    def __init__(self, lives, known):
        self.lives = lives
        self.known = known


def searched_calls(lives, joint):
    """The index of a call that parts, or None; and for each place where calls lead the index of the first one."""
    found = {}
    for at, call in enumerate(calls_in(lives, joint)):
        sights, there = behind_call(lives, joint, call)
        if do_part(sights):
            return (at, {})
        # Many calls change nothing, and what is canonical need not be renamed.
        place = joint[:3] if there == joint else canonical_joint(there)[:3]
        found.setdefault(place, at)
    return (None, found)


def known_calls(ways, joint):
    """What searched_calls says; how many passages are left is no matter of calls."""
    place = joint[:3]
    if place not in ways.known:
        ways.known[place] = searched_calls(ways.lives, joint)
    return ways.known[place]


def ways_from(ways, joint):
    """The index of a step that parts, or None; and pairs of a joint world to which a step leads, and its index."""
    parting, places = known_calls(ways, joint)
    found = [(place + joint[3:], at) for place, at in places.items()]
    there = behind_pass(ways.lives, joint)
    if there is not None:
        found.append((canonical_joint(there), LAST))
    return (parting, found)


def indexes_to(joint, links):
    """The indexes of the steps that lead from the start of a search to a joint world that it found."""
    indexes = []
    while links[joint] is not None:
        joint, at = links[joint]
        indexes.append(at)
    return list(reversed(list(indexes)))


def history_of(lives, start, indexes):
    """The steps with these indexes, one behind another."""
    here = start
    history = []
    # Renaming keeps the order of steps, so a step has the same index where the objects are and at the joint world.
    for at in indexes:
        step = steps_in(lives, here)[at]
        history.append(step)
        here = behind_pass(lives, here) if step == PASS else behind_call(lives, here, step)[1]
    return tuple(history)


def certificate(ways, start, most):
    """A certificate for the search that begins with a joint world."""
    links = {start: None}
    layer = [start]
    while layer:
        later = []
        for joint in layer:
            parting, found = ways_from(ways, joint)
            if parting is not None:
                return ("parted", history_of(ways.lives, start, indexes_to(joint, links) + [parting]))
            for there, at in found:
                # More than are too many need not be remembered, but all steps of the layer are looked at.
                if there not in links and len(links) <= most:
                    links[there] = (joint, at)
                    later.append(there)
        if len(links) > most:
            raise TooMany("joints")
        layer = later
    return ("alike", tuple(links))


def are_things_due(callers, here, things):
    """Whether callers pass these things where the objects are; fresh ones pass new own things only."""
    if not callers.fresh:
        return True
    own = [thing for thing in things if has_number(thing)]
    held = here[0][0] + here[1][0]
    return len(set(own)) == len(own) and not any([thing in held for thing in own])


def is_due(lives, here, step):
    """Whether any value is a step that the callers may take where the objects are."""
    if not is_step(lives, step):
        return False
    if step == PASS:
        return behind_pass(lives, here) is not None
    methods = lives.callers.methods
    is_called = methods is None or step[1] in methods
    return is_called and can_call(lives.one.shape, step[1], here[2]) and are_things_due(lives.callers, here, step[2:])


def is_parting(lives, start, history):
    """Whether any value is a history from a joint world that parts."""
    if not isinstance(history, tuple):
        return False
    here = start
    for at, step in enumerate(history):
        if not is_due(lives, here, step):
            return False
        if step == PASS:
            here = behind_pass(lives, here)
        else:
            sights, here = behind_call(lives, here, step)
            if do_part(sights):
                return at == len(history) - 1
    return False


def is_closed(ways, start, joints):
    """Whether any value is a tuple of joint worlds that no step parts or leaves, the start among them."""
    if not isinstance(joints, tuple):
        return False
    listed = {}
    for joint in joints:
        if not is_joint(ways.lives, joint):
            return False
        listed[joint] = True
    if start not in listed:
        return False
    for joint in list(listed):
        parting, found = ways_from(ways, joint)
        if parting is not None or not all([there in listed for there, _ in found]):
            return False
    return True


def is_certificate(ways, start, value):
    """Whether any value is a right certificate for a start at a joint world."""
    if not isinstance(value, tuple) or len(value) != 2:
        return False
    if value[0] == "alike":
        return is_closed(ways, start, value[1])
    return value[0] == "parted" and is_parting(ways.lives, start, value[1])
