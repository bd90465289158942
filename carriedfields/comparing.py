"""Whether anybody can tell two lives apart (point 31)."""

from carriedfields.certificates import Ways, certificate, is_certificate
from carriedfields.errors import BadJoint
from carriedfields.joints import Lives, first_joint, is_joint
from carriedfields.worlds import MOST


def start_of(lives, start):
    """The joint world with which a search begins; any value but None must be one."""
    if start is None:
        return first_joint(lives)
    if not is_joint(lives, start):
        raise BadJoint(start)
    return start


def compare(one, other, *, callers=None, most=MOST, start=None):
    """A certificate that two lives are alike, or that they are parted."""
    lives = Lives(one, other, callers)
    return certificate(Ways(lives, {}), start_of(lives, start), most)


def is_paper(one, other, thing, *, callers=None, start=None):
    """Whether any value is a certificate for two lives."""
    lives = Lives(one, other, callers)
    return is_certificate(Ways(lives, {}), start_of(lives, start), thing)
