"""Rounds: what steps that are repeated return and lose, near and far away."""

from lateids.checks import check_between, is_between
from lateids.errors import InvalidRound

MOST_STEPS = 20
MOST_BACK = 99
MOST_TIMES = 10 ** 30
MOST_WRITTEN = 40


def is_round(value):
    """Return whether any value is a round."""
    if not isinstance(value, list) or not 1 <= len(value) <= MOST_STEPS:
        return False
    if not all([_is_step(step) for step in value]):
        return False
    begins, commits = _begins(value), _commits(value)
    if begins == 0:
        return not commits
    return len({row % begins for _, row in commits}) == len(commits)


def far_lost(steps, times):
    """Return the number of lost ids behind so many rounds."""
    _check_both(steps, times, MOST_TIMES)
    begins = _begins(steps)
    total = 0
    for row in _losing(steps):
        # In the first rounds the id is below 1: the step commits nothing yet.
        idle = -((row - 1) // begins)
        total += max(0, times - idle)
    return total


def far_cursor(steps, times):
    """Return the cursor behind so many rounds."""
    _check_both(steps, times, MOST_TIMES)
    begins, commits, polls = _begins(steps), _commits(steps), _polls(steps)
    if not polls or not commits:
        return 0
    return max(0, (times - 1) * begins + _top(commits, begins, polls[-1]))


def lost_rate(steps):
    """Return by how much the number of lost ids grows with each round, from some round on."""
    _check_round(steps)
    return len(_losing(steps))


def written_out(steps, times):
    """Return the list of the lists that all polls of so many rounds return."""
    _check_both(steps, times, MOST_WRITTEN)
    lists, new = [], []
    begun, cursor = 0, 0
    for step in steps * times:
        if step[0] == "begin":
            begun += 1
        elif step[0] == "poll":
            rows = sorted([row for row in new if row > cursor])
            cursor = max([cursor, *rows])
            lists.append(rows)
            new = []
        elif begun > step[1]:
            new.append(begun - step[1])
    return lists


def _is_step(value):
    """Return whether any value is a step of a round."""
    if not isinstance(value, tuple) or len(value) not in (1, 2) or not isinstance(value[0], str):
        return False
    if len(value) == 1:
        return value[0] in ("begin", "poll")
    return value[0] == "commit" and is_between(value[1], 0, MOST_BACK)


def _check_round(steps):
    """Raise InvalidRound unless this is a round."""
    if not is_round(steps):
        raise InvalidRound("not a list of 1 to 20 steps that commit no id twice")


def _check_both(steps, times, most):
    """Raise an error unless these are a round and a number of rounds up to the greatest one."""
    _check_round(steps)
    check_between(times, 1, most)


def _begins(steps):
    """Return the number of begins in a round."""
    return len([step for step in steps if step[0] == "begin"])


def _polls(steps):
    """Return the places of the polls in a round."""
    return [place for place, step in enumerate(steps) if step[0] == "poll"]


def _commits(steps):
    """Return tuples of the places of the commits and the ids that they commit in the first round.

    An id below 1 is none yet. In each further round the ids are greater by the number of begins.
    """
    found, begun = [], 0
    for place, step in enumerate(steps):
        if step[0] == "begin":
            begun += 1
        elif step[0] == "commit":
            found.append((place, begun - step[1]))
    return found


def _top(commits, begins, poll):
    """Return the top at the poll in this place in the first round, like an id of the commits: below 1 for none."""
    return max([row if place < poll else row - begins for place, row in commits])


def _losing(steps):
    """Return the ids in the first round of those commits whose ids are lost."""
    begins, commits, polls = _begins(steps), _commits(steps), _polls(steps)
    if not polls:
        return []
    # Tops never fall, so an id is lost if the last poll ahead of its commit passed it. A round
    # is like the next one but for the begins, and what is below 1 passes no id.
    found = []
    for place, row in commits:
        ahead = [poll for poll in polls if poll < place]
        top = _top(commits, begins, ahead[-1]) if ahead else _top(commits, begins, polls[-1]) - begins
        if top > row:
            found.append(row)
    return found
