"""The forms of logs, which tell whether logs do the same to all strips."""

from wetfolds.alikerows import with_exchanged
from wetfolds.lives import check_log, live_limited
from wetfolds.prints import steps_between


def log_form(log):
    """The triple of the folds, of the shift and of the rest of a log."""
    check_log(log)
    return form_of_log(log)


def are_like_logs(log, other_log):
    """Whether two logs are alike."""
    check_log(log)
    check_log(other_log)
    return what_tells(log) == what_tells(other_log)


def exchanged_deeds(log):
    """The ascending list of the indices of all deeds that can be exchanged with the next one."""
    check_log(log)
    told = what_tells(log)
    # Each of the logs so made has to live, as it may have too many pairs.
    others = [what_tells(with_exchanged(log, at)) for at in range(len(log) - 1)]
    return [at for at, other in enumerate(others) if other == told]


def form_of_log(log):
    """The triple of the folds, of the shift and of the rest of a log."""
    folds = []
    shift = 0
    for deed in log:
        if deed[0] == "fold":
            folds.append(deed[1] - 2 * shift)
        elif deed[0] == "move":
            shift += deed[1]
    return (tuple(folds), shift, live_limited((), log)[-1])


def what_tells(log):
    """A pair that two logs have in common just if they are alike."""
    folds, shift, rest = form_of_log(log)
    if len(folds) == 0:
        return (rest, (shift,))
    return (rest, (folds[0], folds[-1] + 2 * shift, steps_between(folds)))
