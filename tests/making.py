"""Small libraries made by chance, the same ones each time a test runs."""

import random

from carriedfields.errors import CarriedError
from carriedfields.pairs import Life
from carriedfields.passages import Passage
from carriedfields.texts import read_library
from carriedfields.worlds import Callers

FIELDS = {"a": 0, "b": 0, "c": 0, "d": 1, "e": 2}


class Maker:
    """Makes classes, passages and callers of a number with which it begins."""

    def __init__(self, seed):
        self.chance = random.Random(seed)

    def pick(self, *things):
        return self.chance.choice(things)

    def plain(self, fields, words):
        """An expression of level 0."""
        plain = [name for name in fields if FIELDS[name] == 0]
        return self.pick("none", "red", *words, *words, *[f"self.{name}" for name in plain])

    def made(self, level, fields, words):
        """An expression of a level from 1 to the level."""
        parts = [self.plain(fields, words) for _ in range(self.pick(1, 1, 2))]
        lower = [name for name in fields if 0 < FIELDS[name] < level]
        if lower and self.pick(True, False):
            parts[0] = f"self.{self.pick(*lower)}"
        return f"{self.pick('page', 'leaf')}({', '.join(parts)})"

    def test(self, fields, words):
        made = [name for name in fields if FIELDS[name] > 0]
        if made and self.pick(True, False, False):
            return f"self.{self.pick(*made)} {self.pick('is', 'is not')} none"
        sign = self.pick("is", "is not", "==", "!=")
        return f"{self.plain(fields, words)} {sign} {self.plain(fields, words)}"

    def rows(self, count, fields, words, indent, heads):
        """Lines of so many rows."""
        lines = []
        for _ in range(count):
            head = self.pick(*heads)
            if head == "set" and fields:
                name = self.pick(*fields)
                level = FIELDS[name]
                value = self.made(level, fields, words) if level else self.plain(fields, words)
                if self.chance.random() < 0.2:
                    value = "none"
                lines.append(f"{indent}self.{name} = {value}")
            elif head == "let":
                lines.append(f"{indent}w = {self.plain(fields, words)}")
            elif head == "if":
                lines.append(f"{indent}if {self.test(fields, words)}:")
                lines.extend(self.rows(1, fields, words, indent + "    ", heads))
                if self.pick(True, False):
                    lines.append(f"{indent}else:")
                    lines.extend(self.rows(1, fields, words, indent + "    ", heads))
            elif head in ("return", "refuse"):
                lines.append(f"{indent}{head} {self.plain(fields, words)}")
        return lines

    def method(self, face, fields):
        """The lines of a method with this face: name, parameters, level, role."""
        name, count, level, role = face
        words = ["x", "y"][:count]
        end = f" -> {level}" if level else ""
        lines = [f"    {role or 'def'} {name}({', '.join(words)}){end}:"]
        heads = ("set", "set", "set", "if", "if", "let", "return", "refuse")
        rows = self.rows(self.pick(1, 1, 2, 3), fields, words, " " * 8, heads)
        lets = any(line.strip().startswith("w = ") for line in rows)
        lines.extend(rows)
        readable = [field for field in fields if FIELDS[field] <= level]
        if readable and self.pick(True, True, False):
            lines.append(f"        return self.{self.pick(*readable)}")
        elif lets:
            lines.append("        return w")
        elif count:
            lines.append("        return x")
        return lines

    def face(self):
        """Faces of one to three methods."""
        found = []
        for name in ("get", "put", "tell")[:self.pick(1, 2, 2, 3)]:
            role = self.pick(None, None, None, None, None, "enter", "leave")
            found.append((name, self.pick(0, 1, 1, 2) if name == "put" else self.pick(0, 0, 1), self.pick(0, 0, 1, 2),
                          role))
        return found

    def shape(self, face, most=3):
        """A shape with this face."""
        while True:
            fields = sorted(self.chance.sample(sorted(FIELDS), self.chance.randint(0, most)))
            lines = ["marks red", "class k:"]
            lines += [f"    {name} = {self.pick('none', 'none', 'red')}" for name in fields if FIELDS[name] == 0]
            lines += [f"    {name}: {FIELDS[name]}" for name in fields if FIELDS[name] > 0]
            for part in face:
                lines += self.method(part, fields)
            try:
                return read_library("\n".join(lines))["k"]
            except CarriedError:
                continue

    def passage(self, shape, into=None):
        """A passage from a shape."""
        goal = shape if into is None else into
        levels, old_levels = dict(goal.fields), dict(shape.fields)
        while True:
            keep, save, names = [], [], []
            for field, level in goal.fields:
                sources = [old for old, other in shape.fields if other == level]
                way = self.pick(keep, save, save, None)
                if way is None or not sources:
                    continue
                source = self.pick(*sources) if self.chance.random() < 0.3 else field
                if source not in sources:
                    continue
                way.append(field)
                if source != field or self.pick(True, False, False):
                    names.append((field, source))
            again, when = (), ()
            if goal.fields and self.pick(True, False, False):
                field, level = self.pick(*goal.fields)
                plain = [("self", name) for name in levels if levels[name] == 0]
                worth = None if level else self.pick(None, "red", *plain)
                again = (("set", field, worth),)
            if shape.fields and self.pick(True, False, False, False):
                field, level = self.pick(*shape.fields)
                when = ((("self", field), self.pick("is", "is not"), None),)
            assert all(field in levels for field in keep + save) and all(old in old_levels for _, old in names)
            try:
                return Passage(shape, keep=tuple(keep), save=tuple(save), names=tuple(names), again=again, when=when,
                               memo=self.pick(True, False), into=into)
            except CarriedError:
                continue

    def life(self, shape, face):
        """A life of a shape."""
        way = self.pick("none", "own", "own", "own", "other", "two", "there and back")
        if way == "none":
            return Life(shape)
        if way == "own":
            return Life(shape, self.passage(shape))
        if way == "two":
            return Life(shape, self.passage(shape) >> self.passage(shape))
        other = self.shape(face, 2)
        if way == "other":
            return Life(shape, self.passage(shape, other))
        return Life(shape, self.passage(shape, other) >> self.passage(other, shape))

    def callers(self, face):
        """Callers of a face."""
        names = tuple(name for name, _, _, _ in face if self.pick(True, True, False))
        return Callers(
            times=self.pick(None, None, 0, 1, 2), look=self.pick("equal", "same"),
            methods=self.pick(None, None, names), fresh=self.pick(True, False),
        )
