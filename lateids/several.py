"""The logs of several readers: which polls are ahead of others, conflicts, and runs."""

from lateids.checks import check_ids, is_between, is_integer
from lateids.errors import InvalidLogs, InvalidPoll, NoFit
from lateids.logs import blocks_of, is_log, unknown_id

MOST_READERS = 4
MOST_POLLS = 8


def arrows(logs, ids):
    """Return the ascending list of all arrows between polls of different readers."""
    _check_fitting(logs, ids)
    return _arrows(logs, ids)


def conflict(logs, ids):
    """Return polls each of which is directly ahead of the next one, the last one of the first one, or None."""
    _check_fitting(logs, ids)
    needs = _needs(logs, ids)
    placed = _placed(logs, needs)
    stuck = [(reader, number) for reader, number in enumerate(placed) if number < len(logs[reader])]
    if not stuck:
        return None
    walk = [stuck[0]]
    # Of the polls that wait for each other, each has one directly ahead of it, so the walk
    # from poll to poll comes back to one where it has been.
    ahead = _stuck_ahead(needs, placed, walk[-1])
    while ahead not in walk:
        walk.append(ahead)
        ahead = _stuck_ahead(needs, placed, ahead)
    return walk[walk.index(ahead):][::-1]


def is_conflict(logs, ids, value):
    """Return whether any value is a conflict."""
    _check_fitting(logs, ids)
    if not isinstance(value, list) or not all([_is_poll(logs, poll) for poll in value]):
        return False
    if len(value) < 2 or len(set(value)) < len(value):
        return False
    found = _arrows(logs, ids)
    return all([_is_directly_ahead(found, one, other) for one, other in zip(value, value[1:] + value[:1])])


def run_for(logs, ids):
    """Return a run of the logs, or None if there is none."""
    _check_fitting(logs, ids)
    polls = _row(logs, _needs(logs, ids))
    if len(polls) < _many_polls(logs):
        return None
    run, left = [], ids
    for reader, number in polls:
        # Each id commits right ahead of the first poll that returns it. So it commits behind
        # its lower polls: they stand ahead of every poll that returns it.
        rows = logs[reader][number]
        run.extend([("commit", row) for row in left if row in rows])
        run.append(("poll", reader))
        left = [row for row in left if row not in rows]
    return run + [("commit", row) for row in left]


def is_run(logs, ids, value):
    """Return whether any value is a run of the logs."""
    _check_fitting(logs, ids)
    if not isinstance(value, list) or not all([_is_event(logs, event) for event in value]):
        return False
    if sorted([number for word, number in value if word == "commit"]) != ids:
        return False
    return _played(value, len(logs)) == logs


def count_rows(logs, ids):
    """Return the number of different rows of all polls, as they stand in the runs."""
    _check_fitting(logs, ids)
    needs = _needs(logs, ids)
    # The beginnings of rows, counted by how many polls of each reader stand in them.
    counts = {(0,) * len(logs): 1}
    for _ in range(_many_polls(logs)):
        longer = {}
        for placed in counts:
            for reader in _next_readers(logs, needs, placed):
                more = placed[:reader] + (placed[reader] + 1,) + placed[reader + 1:]
                longer[more] = longer.get(more, 0) + counts[placed]
        counts = longer
    return sum(counts.values())


def is_ahead(logs, ids, one, other):
    """Return whether a poll stands ahead of another one in every row; True if there is no row."""
    _check_fitting(logs, ids)
    _check_poll(logs, one)
    _check_poll(logs, other)
    if one == other:
        raise InvalidPoll("the same poll twice")
    needs = _needs(logs, ids)
    if len(_row(logs, needs)) < _many_polls(logs):
        return True
    # How many polls of each reader are surely ahead, as far as it is known.
    ahead = [0] * len(logs)
    waiting = [other]
    while waiting:
        poll = waiting.pop()
        # Ahead of a poll are the polls of its own reader with smaller numbers, too.
        for reader, many in [poll, *needs[poll]]:
            waiting.extend([(reader, number) for number in range(ahead[reader], many)])
            ahead[reader] = max(ahead[reader], many)
    return one[1] < ahead[one[0]]


def _are_logs(value):
    """Return whether any value is a list of the logs of several readers."""
    if not isinstance(value, list) or not 1 <= len(value) <= MOST_READERS:
        return False
    return all([is_log(log) and len(log) <= MOST_POLLS for log in value])


def _check_fitting(logs, ids):
    """Raise an error unless these are logs and ids that all of them fit."""
    if not _are_logs(logs):
        raise InvalidLogs("not a list of 1 to 4 logs of at most 8 polls each")
    check_ids(ids)
    for reader, log in enumerate(logs):
        if unknown_id(log, ids) is not None:
            raise NoFit(reader)


def _is_poll(logs, value):
    """Return whether any value is a poll of the logs."""
    if not isinstance(value, tuple) or len(value) != 2 or not is_between(value[0], 0, len(logs) - 1):
        return False
    return is_between(value[1], 0, len(logs[value[0]]) - 1)


def _check_poll(logs, poll):
    """Raise InvalidPoll unless this is a poll of the logs."""
    if not _is_poll(logs, poll):
        raise InvalidPoll("not a tuple of a reader and one of its polls")


def _is_event(logs, value):
    """Return whether any value is a commit or a poll of one of the readers."""
    if not isinstance(value, tuple) or len(value) != 2 or not isinstance(value[0], str):
        return False
    if value[0] == "poll":
        return is_between(value[1], 0, len(logs) - 1)
    return value[0] == "commit" and is_integer(value[1])


def _played(events, many):
    """Return the logs of so many plain readers behind these events."""
    logs, cursors = [[] for _ in range(many)], [0] * many
    visible = []
    for word, number in events:
        if word == "commit":
            visible.append(number)
        else:
            rows = sorted([row for row in visible if row > cursors[number]])
            cursors[number] = max([cursors[number], *rows])
            logs[number].append(rows)
    return logs


def _many_polls(logs):
    """Return the number of polls of all readers."""
    return sum([len(log) for log in logs])


def _arrows(logs, ids):
    """Return the ascending list of all arrows of logs and ids that have been checked."""
    lower, upper = {row: [] for row in ids}, {row: [] for row in ids}
    for reader, log in enumerate(logs):
        found = blocks_of(log, ids)
        for row in found:
            first, last = found[row]
            # A poll ends the block of its number, and begins the next one.
            if first > 0:
                lower[row].append((reader, first - 1))
            if last < len(log):
                upper[row].append((reader, last))
    pairs = [(one, other) for row in ids for one in lower[row] for other in upper[row] if one[0] != other[0]]
    return sorted(set(pairs))


def _is_directly_ahead(found, one, other):
    """Return whether one poll is directly ahead of another one, where these are all arrows."""
    return (one, other) in found or (one[0] == other[0] and one[1] < other[1])


def _needs(logs, ids):
    """Return for each poll tuples of other readers and how many of their polls its arrows put ahead of it."""
    most = {(reader, number): {} for reader, log in enumerate(logs) for number in range(len(log))}
    for one, other in _arrows(logs, ids):
        # The arrows are ascending, so the last one of a reader comes from its latest poll.
        most[other][one[0]] = one[1] + 1
    return {poll: list(most[poll].items()) for poll in most}


def _next_readers(logs, needs, placed):
    """Return the readers whose next poll can follow, if so many polls of each reader are placed."""
    found = []
    for reader, number in enumerate(placed):
        if number < len(logs[reader]) and all([placed[other] >= many for other, many in needs[(reader, number)]]):
            found.append(reader)
    return found


def _row(logs, needs):
    """Return the polls in an order in which they can follow each other, as far as there is one."""
    polls, placed = [], [0] * len(logs)
    ready = _next_readers(logs, needs, placed)
    while ready:
        reader = ready[0]
        polls.append((reader, placed[reader]))
        placed[reader] += 1
        ready = _next_readers(logs, needs, placed)
    return polls


def _placed(logs, needs):
    """Return how many polls of each reader can be placed until all others wait for each other."""
    polls = _row(logs, needs)
    return [len([number for owner, number in polls if owner == reader]) for reader in range(len(logs))]


def _stuck_ahead(needs, placed, poll):
    """Return a poll that cannot be placed and is directly ahead of one that cannot be placed."""
    reader, number = poll
    if number > placed[reader]:
        return (reader, placed[reader])
    return [(other, many - 1) for other, many in needs[poll] if many > placed[other]][0]
