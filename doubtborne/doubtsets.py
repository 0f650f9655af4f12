"""Which doors may stay in doubt."""

from doubtborne.sets import maximal_of, subsets_of
from doubtborne.webs import borne_within


def door_sets(model, goals, steps, setting):
    """The maximal sets of doors that may stay, ascending; raises TooMany."""
    tried = subsets_of(tuple(range(1, len(setting) + 1)))
    beliefs = {doors: _agreeing(model, setting, doors) for doors in tried}
    # Several sets of doors often give one belief, so each belief is looked at once.
    stays = {
        belief: len(belief) == 0 or borne_within(model[3], goals, belief, steps)
        for belief in sorted(set(list(beliefs.values())))
    }
    return maximal_of(tuple([doors for doors in tried if stays[beliefs[doors]]]))


def _agreeing(model, setting, doors):
    """The worlds of the start whose settings agree with this one at all doors but these."""
    others = [at for at in range(len(setting)) if at + 1 not in doors]
    wanted = [setting[at] for at in others]
    return tuple([world for world in model[4] if [model[1][world][0][at] for at in others] == wanted])
