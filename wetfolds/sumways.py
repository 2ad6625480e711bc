"""Tuples of positive integers whose sums are told: the sums of some of them, or of none.

The told sums are an ascending tuple that begins with 0. The integers of a tuple stand from the least to the
greatest. A beginning is a pair of such integers and of the ascending tuple of their sums.
"""

NO_PARTS = ((), (0,))


def fewest_with_sums(goal, most):
    """The first one, in Python's order, of the shortest tuples that make the told sums; None if none of at most
    so many integers does."""
    if goal == (0,):
        return ()
    known = {told: True for told in goal}
    beginnings = [NO_PARTS]
    for further in range(most - 1, -1, -1):
        beginnings = longer_ones(beginnings, goal, known, further)
        for parts, sums in beginnings:
            if sums == goal:
                return parts
    return None


def all_with_sums(goal, most, limit):
    """The ascending list of all tuples of at most so many integers that make the told sums, or of more than
    the limit of them if there are more; without a limit for None."""
    known = {told: True for told in goal}
    found = []
    waiting = [NO_PARTS]
    while len(waiting) > 0 and (limit is None or len(found) <= limit):
        parts, sums = waiting.pop()
        if sums == goal:
            found.append(parts)
        elif len(parts) < most:
            # The last one that waits is the next one, so the first ones in Python's order stand last.
            waiting.extend(longer_by_one(parts, sums, goal, known, most - len(parts) - 1)[::-1])
    return found


def longer_ones(beginnings, goal, known, further):
    """The list of the beginnings with one integer more than some beginnings: of those that can go on alike, the
    first one in Python's order."""
    seen = set()
    longer = []
    for beginning in beginnings:
        for parts, sums in longer_by_one(beginning[0], beginning[1], goal, known, further):
            # How it can go on depends on the last integer and on the sums alone.
            if (parts[-1], sums) not in seen:
                seen.add((parts[-1], sums))
                longer.append((parts, sums))
    return longer


def longer_by_one(parts, sums, goal, known, further):
    """The list of the beginnings with one integer more than a beginning, in Python's order, without some that at
    most so many further integers cannot bring to the told sums."""
    longer = []
    for part in next_parts(parts, sums, goal):
        if all([told + part in known for told in sums]):
            wider = tuple(sorted(set(list(sums) + [told + part for told in sums])))
            # Each further integer makes at most twice as many sums.
            if len(wider) << further >= len(goal):
                longer.append((parts + (part,), wider))
    return longer


def next_parts(parts, sums, goal):
    """The ascending list of the told sums that can be the next integer of a beginning."""
    left = goal[-1] - sums[-1]
    lacking = first_lacking(sums, goal)
    # The least sum that lacks is one to which an integer that is still to come was added, so the next one is not
    # greater. All together make the greatest sum: one that is not all that is left is at most half of it.
    return [told for told in goal
            if max((1,) + parts[-1:]) <= told <= lacking and (told == left or 2 * told <= left)]


def first_lacking(sums, goal):
    """The least told sum that is not among the sums, all of them told ones, of which some lack."""
    for told, have in zip(goal, sums):
        if told != have:
            return told
    return goal[len(sums)]
