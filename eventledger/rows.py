"""Rows: a body behind how many signs it has and their sum."""

MODULUS = 1000003


def sum_of(text, *, modulus=MODULUS):
    """Each sign's ord times its place, from 1 on, all together modulo the modulus."""
    total = 0
    for place, sign in enumerate(text, start=1):
        total += ord(sign) * place
    return total % modulus


def framed(body):
    """The row of a body."""
    return f"{len(body)} {sum_of(body)} {body}"


def body_of(row):
    """The body of which the text is just the row, None where there is no such body."""
    # Neither number has a blank in it, so no body but this one can have the text as its row.
    body = row.partition(" ")[2].partition(" ")[2]
    return body if framed(body) == row else None
