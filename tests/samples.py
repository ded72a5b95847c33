"""Values and checks that several test files share."""

import copy
import unittest


class Odd:
    """A value that cannot be compared, hashed, measured or tested."""

    __hash__ = None

    def _refuse(self, *rest):
        raise RuntimeError("an odd value was used")

    __eq__ = __ne__ = __lt__ = __le__ = __gt__ = __ge__ = _refuse
    __len__ = __iter__ = __bool__ = __getitem__ = __contains__ = _refuse
    __int__ = __index__ = __str__ = _refuse


class Equal:
    """A value that claims to be equal to every other one."""

    def __eq__(self, other):
        return True

    def __hash__(self):
        return 1


NO_INTEGERS = [
    None, True, False, "", "1", "begin", b"1", 1.0, 0.0, 2.5, float("nan"), float("inf"), 1j,
    (), (1,), [], [1], {}, {1: 1}, set(), {1}, frozenset(), range(2), object(), Odd(), Equal(), len, int,
]

NO_LISTS = [
    None, True, False, 0, 1, -1, 10 ** 30, 1.0, "", "begin", "12", b"", b"12", (), (1,), (2, 1), (("begin",),),
    {}, {1: 1}, {("begin",): 1}, set(), {1}, frozenset([1]), range(0), range(1, 3), iter([]), object(), Odd(), Equal(),
    len, list,
]


class ExactCase(unittest.TestCase):
    """A test case for results and errors of exactly one kind."""

    def assert_raises_exactly(self, error, function, *values):
        try:
            function(*values)
        except Exception as found:
            self.assertIs(type(found), error, found)
            if not vars(found):
                self.assertEqual([type(word) for word in found.args], [str])
        else:
            self.fail(f"{function.__name__} raised no {error.__name__}")

    def assert_unchanged(self, function, *values):
        """Check that a call leaves its arguments and keeps nothing of its result."""
        before = copy.deepcopy(values)
        first = function(*values)
        self.assertEqual(values, before)
        kept = copy.deepcopy(first)
        if isinstance(first, list):
            first.append(77)
        elif isinstance(first, dict):
            first[77] = 77
        self.assertEqual(values, before)
        self.assertEqual(function(*values), kept)
        self.assertEqual(function(*before), kept)
