"""Libraries of kinds, and the shapes that objects of these kinds have (points 11 to 14)."""

from carriedfields.errors import BadLibrary, NoKind
from carriedfields.faults import first_fault
from carriedfields.lines import constants_of, firsts_of, levels_of, line_of, methods_of, versions_of
from carriedfields.words import are_different_words

MOST_KINDS = 4
MOST_MARKS = 4


def method_faces(line):
    """The methods of a line as its callers see them, ascending."""
    methods = methods_of(line)
    found = [methods[name] for name in sorted(methods)]
    return tuple([(method.name, len(method.params), method.level, method.role) for method in found])


class Library:
    """One to four kinds and the marks that they share."""

    def __init__(self, *kinds, marks=()):
        if not 1 <= len(kinds) <= MOST_KINDS:
            raise BadLibrary(-1, "kinds")
        if not are_different_words(marks) or len(marks) > MOST_MARKS:
            raise BadLibrary(-1, "marks")
        for at, kind in enumerate(kinds):
            part = first_fault(kind, kinds[:at], marks)
            if part is not None:
                raise BadLibrary(at, part)
        self.kinds = kinds
        self.marks = marks
        self.shapes = {kind.name: Shape(self, line_of(kind, kinds)) for kind in kinds}

    def __len__(self):
        return len(self.kinds)

    def __contains__(self, name):
        return isinstance(name, str) and name in self.shapes

    def __getitem__(self, name):
        if name not in self:
            raise NoKind(name)
        return self.shapes[name]

    def __iter__(self):
        raise TypeError("a library is not iterated over: take its kinds")

    def __eq__(self, other):
        return isinstance(other, Library) and self.kinds == other.kinds and self.marks == other.marks


class Shape:
    """What the objects of one kind of a library have; made by library[name]."""

    def __init__(self, library, line):
        levels = levels_of(line)
        firsts = firsts_of(line)
        names = sorted(levels)
        self.library = library
        self.name = line[0].name
        self.line = tuple([kind.name for kind in line])
        self.fields = tuple([(name, levels[name]) for name in names])
        self.firsts = tuple([firsts[name] for name in names])
        self.face = (method_faces(line), tuple(sorted(library.marks)))
        # What runs and passages ask for again and again.
        self.constants = constants_of(line)
        self.versions = versions_of(line)
        self.carries = tuple([kind.carry for kind in line if kind.carry is not None])

    def __eq__(self, other):
        return isinstance(other, Shape) and self.library == other.library and self.name == other.name
