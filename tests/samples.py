"""Values and checks that several test files share."""

import copy
import sys
import unittest


class Odd:
    """A value that cannot be compared, hashed, measured or tested."""

    __hash__ = None

    def _refuse(self, *rest):
        raise RuntimeError("an odd value was used")

    __eq__ = __ne__ = __lt__ = __le__ = __gt__ = __ge__ = _refuse
    __len__ = __iter__ = __bool__ = __getitem__ = __contains__ = _refuse
    __int__ = __index__ = __str__ = _refuse


class Equal:
    """A value that claims to be equal to every other one."""

    def __eq__(self, other):
        return True

    def __hash__(self):
        return 1


NO_INTEGERS = [
    None, True, False, "", "1", "begin", b"1", 1.0, 0.0, 2.5, float("nan"), float("inf"), 1j,
    (), (1,), [], [1], {}, {1: 1}, set(), {1}, frozenset(), range(2), object(), Odd(), Equal(), len, int,
]

NO_LISTS = [
    None, True, False, 0, 1, -1, 10 ** 30, 1.0, "", "begin", "12", b"", b"12", (), (1,), (2, 1), (("begin",),),
    {}, {1: 1}, {("begin",): 1}, set(), {1}, frozenset([1]), range(0), range(1, 3), iter([]), object(), Odd(), Equal(),
    len, list,
]


def steps_of(call, most=10 ** 7):
    """Return how many small steps a call of no arguments takes, whatever else the machine does."""
    steps = 0

    def trace(frame, event, arg):
        nonlocal steps
        frame.f_trace_opcodes = True
        if event == "opcode":
            steps += 1
            if steps > most:
                raise AssertionError(f"more than {most} steps")
        return trace

    before = sys.gettrace()
    sys.settrace(trace)
    try:
        # Some Pythons do not count the steps of the first function that is traced.
        sum(k for k in range(3))
        steps = 0
        call()
    finally:
        sys.settrace(before)
    return steps


def spoil(value):
    """Change every list and every dict in a value."""
    if isinstance(value, (list, tuple)):
        for item in value:
            spoil(item)
    if isinstance(value, list):
        value.append(77)
    elif isinstance(value, dict):
        value[77] = 77


STRANGE = NO_INTEGERS + [0, 1, 2, 3, -1, 10 ** 30, 10 ** 30 + 1, [1, 2], [[]], ("begin",), ("commit", 1), ("poll", 0),
                         (0, 0), (1, 1)]


def changed(source, value):
    """Return a list or tuple with one thing changed in it, or in what it holds; a source of random numbers chooses it."""
    inner = [at for at, item in enumerate(value) if type(item) in (list, tuple)]
    if inner and source.random() < 0.6:
        at = source.choice(inner)
        items = list(value)
        items[at] = changed(source, value[at])
        return type(value)(items)
    items, many = list(value), len(value)
    kind = source.randrange(8)
    at = source.randrange(many) if many else 0
    if kind == 0:
        return tuple(items) if type(value) is list else items
    if kind == 1 or not many:
        items.insert(source.randint(0, many), source.choice(STRANGE))
    elif kind == 2:
        items[at] = source.choice(STRANGE)
    elif kind == 3:
        items.insert(source.randint(0, many), items[at])
    elif kind == 4:
        del items[at]
    elif kind == 5:
        other = source.randrange(many)
        items[at], items[other] = items[other], items[at]
    elif type(items[at]) is int:
        items[at] += source.choice([-1, 1, 1, 2, 10 ** 30])
    else:
        items[at] = source.choice(items)
    return type(value)(items)


class ExactCase(unittest.TestCase):
    """A test case for results and errors of exactly one kind."""

    def assert_raises_exactly(self, error, function, *values, **named):
        try:
            function(*values, **named)
        except Exception as found:
            self.assertIs(type(found), error, found)
            if not vars(found):
                self.assertEqual([type(word) for word in found.args], [str])
            return found
        self.fail(f"{function.__name__} raised no {error.__name__}")

    def assert_unchanged(self, function, *values, **named):
        """Check that a call leaves its arguments and keeps nothing of its result."""
        before = copy.deepcopy(values)
        first = function(*values, **named)
        self.assertEqual(values, before)
        kept = copy.deepcopy(first)
        spoil(first)
        self.assertEqual(values, before)
        self.assertEqual(function(*values, **named), kept)
        self.assertEqual(function(*before, **named), kept)
