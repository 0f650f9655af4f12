"""Movers, and the posts where they may be."""


def may_go(mover, posts):
    """The set of the posts where the mover may be a step behind any of the posts."""
    leads = mover[2]
    return tuple(sorted(set([new for old in posts for new in leads[old]])))


def posts_after(mover, posts, many):
    """The set of the posts where the mover may be so many steps behind any of the posts."""
    for _ in range(many):
        posts = may_go(mover, posts)
    return posts


def round_of(mover, posts):
    """The pair (first, length): from first on, the sets of posts come round every length steps."""
    steps = {}
    while posts not in steps:
        steps[posts] = len(steps)
        posts = may_go(mover, posts)
    first = steps[posts]
    return (first, len(steps) - first)
