"""Rounds of a line: each make has the one ahead as its only elder."""


def line_rounds(n, w):
    """How many rounds of this width a line of n makes has, and what is left at worst, round by round."""
    left = [n]
    while left[-1] > 1:
        # Trials of w makes split a line into w + 1 parts; the greatest is rounded up.
        left.append((left[-1] + w) // (w + 1))
    return len(left) - 1, left
