"""Schedules: polls that end with the last moment, and how few or how many ids they lose."""

from lateids.checks import check_between, check_moment, check_order
from lateids.errors import InvalidMoment
from lateids.moments import ids_below, tops_of

GREATEST_NUMBER = 10 ** 30


def lost_between(order, earlier, later):
    """Return the ascending list of the ids lost by a poll whose next poll is at the later moment."""
    check_order(order)
    check_moment(order, earlier)
    check_moment(order, later)
    if later < earlier:
        raise InvalidMoment("the later moment is ahead of the earlier one")
    return ids_below(order[earlier:later], tops_of(order)[earlier])


def least_loss(order, gap):
    """Return the least loss of the schedules whose gaps are at most this one."""
    check_order(order)
    check_between(gap, 1, GREATEST_NUMBER)
    loss, _ = _best_steps(order, gap)[-1]
    return loss


def best_schedule(order, gap):
    """Return a schedule with the least loss of those whose gaps are at most this one."""
    check_order(order)
    check_between(gap, 1, GREATEST_NUMBER)
    steps = _best_steps(order, gap)
    schedule = []
    moment = len(order)
    while moment > 0:
        schedule.append(moment)
        _, moment = steps[moment]
    return schedule[::-1]


def least_loss_of(order, count):
    """Return the least loss of the schedules with so many moments."""
    _check_count(order, count)
    losses = _possible_losses(order, count)[-1][-1]
    # What is left of the losses with their negative is the lowest bit alone.
    return (losses & -losses).bit_length() - 1


def greatest_loss_of(order, count):
    """Return the greatest loss of the schedules with so many moments."""
    _check_count(order, count)
    return _possible_losses(order, count)[-1][-1].bit_length() - 1


def schedule_of(order, count, loss):
    """Return a schedule with so many moments and exactly this loss, or None."""
    _check_count(order, count)
    check_between(loss, 0, GREATEST_NUMBER)
    possible = _possible_losses(order, count)
    if not _has(possible[-1][-1], loss):
        return None
    lost = _lost_numbers(order)
    schedule = []
    moment, left = len(order), loss
    for many in range(count - 1, -1, -1):
        schedule.append(moment)
        ahead = possible[many]
        earlier = [other for other in range(moment) if _has(ahead[other], left - lost[other][moment])][0]
        left = left - lost[earlier][moment]
        moment = earlier
    return schedule[::-1]


def _check_count(order, count):
    """Raise an error unless the order has schedules with so many moments."""
    check_order(order)
    check_between(count, min(1, len(order)), len(order))


def _lost_numbers(order):
    """Return a table: its item [earlier][later] is the number of ids lost between two moments."""
    tops = tops_of(order)
    table = []
    for earlier in range(len(order)):
        numbers = [0] * (earlier + 1)
        for row in order[earlier:]:
            numbers.append(numbers[-1] + (1 if row < tops[earlier] else 0))
        table.append(numbers)
    return table


def _best_steps(order, gap):
    """Return for each moment the least loss of moments that end with it, and the one ahead of it there."""
    lost = _lost_numbers(order)
    steps = [(0, 0)]
    for later in range(1, len(order) + 1):
        first = max(0, later - gap)
        steps.append(min([(steps[earlier][0] + lost[earlier][later], earlier) for earlier in range(first, later)]))
    return steps


def _possible_losses(order, count):
    """Return a table: its item [many][moment] has the losses of so many moments that end with this one.

    The losses are the bits of an integer: bit 3 is set if a loss of 3 is possible.
    """
    lost = _lost_numbers(order)
    table = [[1] + [0] * len(order)]
    for many in range(count):
        losses = []
        for later in range(len(order) + 1):
            bits = 0
            for earlier in range(later):
                bits = bits | (table[many][earlier] << lost[earlier][later])
            losses.append(bits)
        table.append(losses)
    return table


def _has(losses, loss):
    """Return whether a loss, which may be none at all, is among the losses."""
    return 0 <= loss < losses.bit_length() and (losses >> loss) & 1 == 1
