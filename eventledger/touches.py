"""Touches: what becomes of a number. A touch (a, b, c) adds a, holds at least at b, then at most at c.

Where b or c is None nothing is held there.
"""


def touch_of(word, number):
    """The touch that a change of a cell is."""
    if word == "add":
        return (number, None, None)
    if word == "least":
        return (0, number, None)
    if word == "most":
        return (0, None, number)
    return fixed_touch(number)


def fixed_touch(number):
    """The touch that makes this number of all."""
    return (0, number, number)


def is_fixed_touch(touch):
    """Whether a touch, written as equal ones are, makes one number of all."""
    _, least, most = touch
    return least is not None and least == most


def touched(touch, number):
    """What becomes of the number."""
    plus, least, most = touch
    made = number + plus
    if least is not None:
        made = max(made, least)
    if most is not None:
        made = min(made, most)
    return made


def touch_behind(one, other):
    """The touch that does what both do, the other one behind the one."""
    _, least, most = one
    plus, other_least, other_most = other
    # The bounds go through the other touch as numbers do; where there are none its own ones hold.
    lowest = other_least if least is None else touched(other, least)
    highest = other_most if most is None else touched(other, most)
    return plain_touch((one[0] + plus, lowest, highest))


def plain_touch(touch):
    """The touch, written so that equal ones are equal."""
    _, least, most = touch
    if least is not None and most is not None and least >= most:
        return fixed_touch(most)
    return touch


def number_apart(one, other):
    """A number of which two touches make unlike things, None where there is none."""
    bends = [0]
    for plus, least, most in (one, other):
        bends.extend([bound - plus for bound in (least, most) if bound is not None])
    # Between two bends, and beyond the outer ones, both go straight.
    for number in (min(bends) - 1, *bends, max(bends) + 1):
        if touched(one, number) != touched(other, number):
            return number
    return None
