"""Points 24 to 31 once more, told slowly with runs and passages alone: tests hold pairs and certificates against it."""

from carriedfields.errors import NotNow
from carriedfields.running import Run


def is_thing(value):
    """Whether a value of an object is a thing."""
    return isinstance(value, tuple) and isinstance(value[0], int)


def contents_in(value):
    """The contents that a value meets, from left to right."""
    if is_thing(value):
        return [value[0]]
    if isinstance(value, tuple):
        return [content for part in value[1:] for content in contents_in(part)]
    return [value] if isinstance(value, int) else []


def once(things):
    """The things in the order in which they come for the first time."""
    return list(dict.fromkeys(things))


def renamed(value, contents, own, copies):
    """A value with the places of its contents and numbers in these lists."""
    if is_thing(value):
        if value[1] >= 0:
            numbers = [number for content, number in own if content == value[0]]
            return (contents.index(value[0]), numbers.index(value[1]))
        numbers = [number for content, number in copies if content == value[0]]
        return (contents.index(value[0]), -1 - numbers.index(value[1]))
    if isinstance(value, tuple):
        return (value[0], *[renamed(part, contents, own, copies) for part in value[1:]])
    return contents.index(value) if isinstance(value, int) else value


def joint_of(place):
    """The joint world of a place, which has the form of a joint world but any contents and numbers."""
    (one, _), (other, _), _, _ = place
    contents = once(content for value in one + other for content in contents_in(value))
    own = once(value for value in one + other if is_thing(value) and value[1] >= 0)
    sides = []
    for values in (one, other):
        copies = once(value for value in values if is_thing(value) and value[1] < 0)
        sides.append(tuple(renamed(value, contents, own, copies) for value in values))
    return ((sides[0], place[0][1]), (sides[1], place[1][1]), place[2], place[3])


def choices(values, marks, fresh):
    """The choices for a parameter, for some values (25)."""
    found = [None, *sorted(marks)]
    contents = once(content for value in values for content in contents_in(value))
    for content in contents:
        own = once(value for value in values if is_thing(value) and value[0] == content and value[1] >= 0)
        if not fresh:
            found.extend(own)
        found.append((content, max([number for _, number in own], default=-1) + 1))
    found.append((max(contents, default=-1) + 1, 0))
    return found


class Twins:
    """Two lives and their callers."""

    def __init__(self, one, other, callers):
        self.lives = (one, other)
        self.callers = callers
        self.first = ((one.shape.firsts, False), (other.shape.firsts, False), False, callers.times)

    def moves(self, life):
        return life.route is not None and life.route.into != life.shape

    def shape_of(self, life, moved):
        return life.route.into if moved else life.shape

    def pass_at(self, place):
        """Where a pass leads, or None."""
        if place[2] or place[3] == 0 or place[0][1] or place[1][1]:
            return None
        if self.lives[0].route is None and self.lives[1].route is None:
            return None
        sides = []
        for life, (values, _) in zip(self.lives, place):
            if life.route is not None:
                try:
                    values = life.route(values)
                except NotNow:
                    return None
            sides.append((values, self.moves(life)))
        return (*sides, False, None if place[3] is None else place[3] - 1)

    def steps_at(self, place):
        """The steps of the callers (30)."""
        values = place[0][0] + place[1][0]
        methods, marks = self.lives[0].shape.face
        fresh = self.callers.fresh
        found = []
        for name, count, _, role in methods:
            if self.callers.methods is not None and name not in self.callers.methods:
                continue
            if role is not None and (role == "leave") != place[2]:
                continue
            if count == 0:
                found.append(("call", name))
                continue
            for one in choices(values, marks, fresh):
                if count == 1:
                    found.append(("call", name, one))
                else:
                    found.extend(("call", name, one, two) for two in choices(values + (one,), marks, fresh))
        if self.pass_at(place) is not None:
            found.append(("pass",))
        return found

    def seen(self, report):
        word, value = report
        if not is_thing(value):
            return report
        if self.callers.look == "equal":
            return (word, ("thing", value[0]))
        return (word, ("thing", value[0], value[1] if value[1] >= 0 else -1))

    def do_at(self, place, step):
        """What is seen, and where the step leads; NotNow is raised where it is not possible."""
        if step == ("pass",):
            there = self.pass_at(place)
            if there is None:
                raise NotNow("pass")
            return None, there
        runs = []
        told = []
        for life, (values, moved) in zip(self.lives, place):
            run = Run.set_up(self.shape_of(life, moved), (values, place[2]))
            told.append(self.seen(run.call(*step[1:])))
            runs.append(run)
        if told[0] != told[1]:
            return tuple(told), place
        assert runs[0].is_within == runs[1].is_within
        sides = [(run.state[0], side[1]) for run, side in zip(runs, place)]
        return tuple(told), (*sides, runs[0].is_within, place[3])

    def parts(self, sights):
        return sights is not None and sights[0] != sights[1]

    def search(self, start=None):
        """The layers of the search, a list, and whether a step of the last layer parts."""
        layers = [[self.first if start is None else start]]
        found = set(layers[0])
        while layers[-1]:
            later = []
            for joint in layers[-1]:
                for step in self.steps_at(joint):
                    sights, there = self.do_at(joint, step)
                    if self.parts(sights):
                        return layers, True
                    there = joint_of(there)
                    if there not in found:
                        found.add(there)
                        later.append(there)
            layers.append(later)
            if len(found) > 3000:
                return layers, None
        return layers[:-1], False

    def is_joint(self, value):
        """Whether any value is a joint world (30)."""
        if not isinstance(value, tuple) or len(value) != 4 or not isinstance(value[2], bool):
            return False
        for life, side in zip(self.lives, value):
            if not isinstance(side, tuple) or len(side) != 2 or not isinstance(side[1], bool):
                return False
            if side[1] and not self.moves(life):
                return False
            try:
                Run.set_up(self.shape_of(life, side[1]), (side[0], False))
            except ValueError:
                return False
        times, left = self.callers.times, value[3]
        if (times is None) != (left is None):
            return False
        if times is not None and (not isinstance(left, int) or isinstance(left, bool) or not 0 <= left <= times):
            return False
        return joint_of(value) == value

    def is_history(self, history, start=None):
        """Whether any value is a history that parts."""
        place = self.first if start is None else start
        if not isinstance(history, tuple) or not history:
            return False
        for step in history[:-1]:
            ended, place = self.taken(place, step)
            if ended is not False:
                return False
        return self.taken(place, history[-1])[0] is True

    def taken(self, place, step):
        """Whether a step parts, None if it is no step that the callers take; and where it leads."""
        if step != ("pass",):
            if not isinstance(step, tuple) or len(step) < 2 or step[0] != "call" or not isinstance(step[1], str):
                return None, place
            if self.callers.methods is not None and step[1] not in self.callers.methods:
                return None, place
            held = [value for side in place[:2] for value in side[0] if is_thing(value)]
            if self.callers.fresh:
                own = [thing for thing in step[2:] if isinstance(thing, tuple)]
                if any(thing in held for thing in own) or any(thing in own[:at] for at, thing in enumerate(own)):
                    return None, place
        try:
            sights, there = self.do_at(place, step)
        except ValueError:
            return None, place
        return self.parts(sights), there

    def is_paper(self, paper, start=None):
        """Whether any value is a certificate (31)."""
        first = self.first if start is None else start
        if not isinstance(paper, tuple) or len(paper) != 2:
            return False
        if paper[0] == "parted":
            return self.is_history(paper[1], first)
        if paper[0] != "alike" or not isinstance(paper[1], tuple):
            return False
        if not all(self.is_joint(joint) for joint in paper[1]) or first not in paper[1]:
            return False
        joints = set(paper[1])
        for joint in joints:
            for step in self.steps_at(joint):
                sights, there = self.do_at(joint, step)
                if self.parts(sights) or joint_of(there) not in joints:
                    return False
        return True
