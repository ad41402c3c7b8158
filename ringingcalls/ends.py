"""Ends: what an asking or a talk comes to, and which of several noes is the best."""

TAKEN = "taken"
DONE = "done"
LATE = "late"
KIND_RANK = 405
LATE_RANK = 408
NOBODY_RANK = 480
GONE_RANK = 481
LOOP_RANK = 482
HOPS_RANK = 483
GIVEN_UP_RANK = 487
GLARE_RANK = 491
OLD_RANK = 500
FULL_RANK = 503
LEAST_SHUTTING = 600


def is_shutting(rank):
    """Whether a no of this rank speaks for all that are asked."""
    return rank >= LEAST_SHUTTING


def best_no(ranks):
    """The best of a list of ranks, None where there is none."""
    if not ranks:
        return None
    shutting = [rank for rank in ranks if is_shutting(rank)]
    return min(shutting) if shutting else min(ranks)
