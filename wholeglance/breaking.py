"""Weavings that break the manners that aren't right."""

from wholeglance.breakplans import has_stale_views, stale_plan, torn_plan
from wholeglance.manners import hands_of
from wholeglance.rightness import is_right
from wholeglance.scripts import weaving_of


def breaking(manner):
    if is_right(manner):
        return None
    plan = stale_plan(manner) if has_stale_views(manner) else torn_plan(manner)
    jobs = tuple([("deeds", plan[0].get(hand, ())) for hand in range(hands_of(manner))])
    return (jobs, weaving_of(manner, jobs, plan[1]))
