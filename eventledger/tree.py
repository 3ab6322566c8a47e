"""The tree of sums, which tells of events and of beginnings of a log that they are there."""

from eventledger.forms import is_whole
from eventledger.rows import MODULUS, sum_of
from eventledger.values import shown


def leaf(position, event):
    """The sum of the event at the position."""
    kind, version, values = event
    return sum_of(shown((position, kind, version, values)))


def pair(left, right):
    """The sum of two parts, one behind the other."""
    return (31 * left + 101 * right + 7) % MODULUS


def root_of(sums):
    """The sum of a run, by the sums of its events."""
    if not sums:
        return 0
    if len(sums) == 1:
        return sums[0]
    first = _first_part(len(sums))
    return pair(root_of(sums[:first]), root_of(sums[first:]))


def _first_part(length):
    """How many are in the first part of a run of two or more: the greatest power of two below its length."""
    many = 1
    while many * 2 < length:
        many *= 2
    return many


def standing_paper(sums, position):
    """The sums of the parts beside the event at the position, from its own pair up."""
    paper = []
    while len(sums) > 1:
        first = _first_part(len(sums))
        if position < first:
            paper.append(root_of(sums[first:]))
            sums = sums[:first]
        else:
            paper.append(root_of(sums[:first]))
            sums = sums[first:]
            position -= first
    return list(reversed(paper))


def stands(root, length, position, event, paper):
    """Whether the paper shows that the event stands at the position of the log of this length and root."""
    if not 0 <= position < length or not _are_sums(paper):
        return False
    sides = _sides_of(length, position)
    if len(paper) != len(sides):
        return False
    told = leaf(position, event)
    for beside, is_left in zip(paper, sides):
        told = pair(told, beside) if is_left else pair(beside, told)
    return told == root


def _sides_of(length, position):
    """Whether the event is in the left part of each pair, from its own one up."""
    sides = []
    while length > 1:
        first = _first_part(length)
        is_left = position < first
        sides.append(is_left)
        if is_left:
            length = first
        else:
            length -= first
            position -= first
    return list(reversed(sides))


def _are_sums(paper):
    """Whether it is a list or a tuple of sums; told of anything."""
    if not isinstance(paper, (list, tuple)):
        return False
    return all([is_whole(told) and 0 <= told < MODULUS for told in paper])


def beginning_paper(sums, shorter):
    """The sums of the parts into which the run is cut at the shorter length, from left to right."""
    if not sums:
        return []
    if shorter in (0, len(sums)):
        return [root_of(sums)]
    first = _first_part(len(sums))
    if shorter <= first:
        return [*beginning_paper(sums[:first], shorter), root_of(sums[first:])]
    return [root_of(sums[:first]), *beginning_paper(sums[first:], shorter - first)]


def begins(root, length, elder, shorter, paper):
    """Whether the paper shows that the log of the shorter length, of the elder root, begins that of this length."""
    if not 0 <= shorter <= length or not _are_sums(paper):
        return False
    if len(paper) != _many_parts(length, shorter):
        return False
    if shorter == 0:
        # The paper is the whole, or none of a log of none; a root of none is 0.
        return elder == 0 and root == (paper[0] if length > 0 else 0)
    return _roots_by(length, shorter, list(paper)) == (root, elder)


def _many_parts(length, shorter):
    """Into how many parts a run of the length is cut at the shorter one."""
    if length == 0:
        return 0
    many = 1
    while shorter not in (0, length):
        many += 1
        first = _first_part(length)
        if shorter <= first:
            length = first
        else:
            length -= first
            shorter -= first
    return many


def _roots_by(length, shorter, parts):
    """The roots of the length and of the shorter one, not 0, by just as many parts as are wanted."""
    if shorter == length:
        return parts[0], parts[0]
    first = _first_part(length)
    if shorter <= first:
        left, elder = _roots_by(first, shorter, parts[:-1])
        return pair(left, parts[-1]), elder
    right, elder = _roots_by(length - first, shorter - first, parts[1:])
    return pair(parts[0], right), pair(parts[0], elder)
