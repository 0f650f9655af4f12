"""Legs: policies of which one begins where the one ahead of it ends."""

from doubtborne.policies import judge_policy
from doubtborne.sets import inside_one
from doubtborne.tables import ended, is_belief


def judge_leg(table, leg):
    """Whether the leg is right."""
    _, inlets, outlets, n, policy = leg
    if n < 0 or not _are_beliefs(table, inlets) or not _are_beliefs(table, outlets):
        return False
    return all(judge_policy(table, outlets, inlet, n, policy) for inlet in inlets)


def _are_beliefs(table, beliefs):
    """Whether they are beliefs of the table, and at least one."""
    return len(beliefs) > 0 and all(is_belief(table, belief) for belief in beliefs)


def judge_chain(table, goals, start, chain):
    """Whether the chain is right for the goals and the start."""
    if len(chain) == 0 or not all(judge_leg(table, leg) for leg in chain):
        return False
    if not inside_one(start, chain[0][1]) or not all(ended(goals, outlet) for outlet in chain[-1][2]):
        return False
    return all(
        inside_one(outlet, behind[1])
        for leg, behind in zip(chain, chain[1:])
        for outlet in leg[2]
    )


def joined(chain):
    """The policy with the entries of all legs of the chain."""
    later = sum([leg[3] for leg in chain])
    entries = []
    for _, _, _, n, policy in chain:
        later = later - n
        entries.extend([(belief, k + later, command) for belief, k, command in policy])
    return tuple(entries)


def cut(goals, start, m, policy, cuts):
    """The chain of legs into which the cuts part the policy."""
    chain = []
    inlets = (start,)
    above = m
    for below in cuts + (0,):
        outlets = _outlets(goals, policy, below)
        # In the first leg there is no greatest number, so that it has all that is wrong in the policy, too.
        entries = [
            (belief, n - below, command) for belief, n, command in policy
            if below < n and (len(chain) == 0 or n <= above)
        ]
        chain.append(("leg", inlets, outlets, above - below, tuple(entries)))
        inlets = outlets
        above = below
    return tuple(chain)


def _outlets(goals, policy, most):
    """The goals, and the beliefs of the policy's entries with a number of at most this one, ascending."""
    return tuple(sorted(set(list(goals) + [belief for belief, n, command in policy if n <= most])))
