"""The sets of fields that suffice when an object is copied (point 33)."""

from carriedfields.certificates import Ways, certificate, is_certificate
from carriedfields.errors import BadPassage, NoGood
from carriedfields.joints import Lives, first_joint
from carriedfields.pairs import Life
from carriedfields.passages import Passage
from carriedfields.worlds import MOST

MANNERS = ("save", "keep")


def sets_of(shape):
    """All sets of the fields of a shape, by size, those of one size ascending."""
    found = [()]
    for field, _ in shape.fields:
        found = found + [fields + (field,) for fields in found]
    return [fields for _, fields in sorted([(len(fields), fields) for fields in found])]


def passages_of(shape, by, again, memo, when):
    """For each set of fields the passage that carries just these, in order."""
    if by not in MANNERS:
        raise BadPassage("by")
    if by == "keep":
        return [Passage(shape, keep=fields, again=again, memo=memo, when=when) for fields in sets_of(shape)]
    return [Passage(shape, save=fields, again=again, memo=memo, when=when) for fields in sets_of(shape)]


def ways_of(passages, callers):
    """For each passage the ways of an object that stays as it is, beside one that goes through the passage."""
    # No object moves into another kind, so calls do the same whatever the passage carries.
    known = {}
    return [Ways(Lives(Life(passage.shape), Life(passage.shape, passage), callers), known) for passage in passages]


def is_part(fields, others):
    """Whether a set of fields has only fields of another one, and fewer."""
    return len(fields) < len(others) and all([field in others for field in fields])


class KeptSets:
    """For each set of fields whether anybody notices that an object is copied with just these."""

    def __init__(self, shape, *, by="save", again=(), memo=True, when=(), callers=None, most=MOST):
        ways = ways_of(passages_of(shape, by, again, memo, when), callers)
        papers = [certificate(way, first_joint(way.lives), most) for way in ways]
        self.entries = tuple(zip(sets_of(shape), papers))
        good = [fields for fields, paper in self.entries if paper[0] == "alike"]
        self.good = tuple(good)
        self.least = tuple([fields for fields in good if not any([is_part(other, fields) for other in good])])
        needed = [field for field, _ in shape.fields if good and all([field in fields for fields in good])]
        self.needed = tuple(needed)

    def __contains__(self, fields):
        return fields in self.good

    def cheapest(self, costs):
        """The least sum of costs of a good set, and all good sets with this sum."""
        if not self.good:
            raise NoGood()
        sums = [sum([costs[field] for field in fields]) for fields in self.good]
        least = min(sums)
        return (least, tuple([fields for fields, cost in zip(self.good, sums) if cost == least]))


def is_kept_sets(shape, thing, *, by="save", again=(), memo=True, when=(), callers=None):
    """Whether any value is a tuple of right entries for all sets of fields."""
    sets = sets_of(shape)
    ways = ways_of(passages_of(shape, by, again, memo, when), callers)
    if not isinstance(thing, tuple) or len(thing) != len(sets):
        return False
    for fields, way, entry in zip(sets, ways, thing):
        if not isinstance(entry, tuple) or len(entry) != 2 or entry[0] != fields:
            return False
        if not is_certificate(way, first_joint(way.lives), entry[1]):
            return False
    return True
