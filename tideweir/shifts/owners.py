"""Owners of key groups for other numbers of tasks, with as few of them moved as can be."""

from tideweir.values.keys import GROUPS


def owners_for(owners, parallel):
    """Return the least of the even owners for a number of tasks that differ from the given ones the least."""
    used = [0 for _ in range(parallel)]
    wanted = most_kept(owners, used, parallel)
    chosen = []
    for group in range(GROUPS):
        for task in range(parallel):
            after = used[:task] + [used[task] + 1] + used[task + 1:]
            kept = 1 if owners[group] == task else 0
            rest = most_kept(owners[group + 1:], after, parallel)
            if rest is not None and kept + rest == wanted:
                chosen.append(task)
                used = after
                wanted = rest
                break
    return tuple(chosen)


def most_kept(owners, used, parallel):
    """Return how many of the owners that are left can stay, if each task owns so many groups already.

    Return None if the owners cannot be even any more.
    """
    share, larger_shares = divmod(GROUPS, parallel)
    kept = 0
    gains = 0
    for task in range(parallel):
        wanted = owners.count(task)
        room = share - used[task]
        if room < 0:
            larger_shares += room
        else:
            kept += min(wanted, room)
            gains += 1 if wanted > room else 0
    if larger_shares < 0 or max(used) > share + 1:
        return None
    return kept + min(gains, larger_shares)
