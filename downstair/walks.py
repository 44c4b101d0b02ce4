"""Many steps one behind the other, in the same way on each stair."""


def walked(step, guide, start, most):
    here = start
    steps = 0
    while steps < most:
        after = step(guide, here)
        if after is None:
            break
        here = after
        steps = steps + 1
    return (here, steps)
