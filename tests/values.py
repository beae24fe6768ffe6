"""Values that several tests share: those that no function takes for a right one."""

import unittest


class Touchy:
    """Raises at whatever is done with it."""

    def refuse(self, *rest):
        raise RuntimeError("touched")

    __eq__ = __ne__ = __lt__ = __le__ = __gt__ = __ge__ = refuse
    __bool__ = __len__ = __iter__ = __int__ = __index__ = __str__ = __repr__ = refuse
    __hash__ = __contains__ = __getitem__ = refuse
    __class__ = property(refuse)


class PassesForString:
    __class__ = str


class PassesForInteger:
    __class__ = int


class PassesForTuple:
    __class__ = tuple


class TouchyString(str):
    def refuse(self, *rest):
        raise RuntimeError("touched")

    __len__ = __iter__ = __eq__ = __getitem__ = refuse
    __hash__ = None


class TouchyInteger(int):
    def refuse(self, *rest):
        raise RuntimeError("touched")

    __lt__ = __le__ = __gt__ = __ge__ = __eq__ = refuse
    __hash__ = None


class TouchyTuple(tuple):
    def refuse(self, *rest):
        raise RuntimeError("touched")

    __len__ = __iter__ = __eq__ = __getitem__ = refuse
    __hash__ = None


def other_kinds():
    """Values that are neither strings nor integers, nor tuples that mean anything."""
    return [
        None, True, False, b"", b"a", bytearray(b"a"), [], ["a"], [1], (), ("a",), (1,),
        {}, {"a": 1}, {1: "a"}, set(), {"a"}, frozenset(), 1.0, 0.0, float("nan"), 1j,
        object(), object, str, int, len, lambda: "a", iter("ab"), range(3), ...,
        NotImplemented, ValueError("a"), Touchy(), PassesForString(), PassesForInteger(),
        PassesForTuple(), TouchyString("a"), TouchyInteger(1), TouchyTuple(("show", 0)),
    ]


def not_counts():
    """Values that are no number of processes of a group."""
    return other_kinds() + [0, -1, 11, 12, 10 ** 30, -10 ** 30, "2", "", 2.0, 10.0]


def deep_tuple(kind, depth, *more):
    """A tuple that is nested so deeply."""
    value = ("show", 0)
    for _ in range(depth):
        value = (kind, *more, value, value)
    return value


class Answers(unittest.TestCase):
    """Checks for functions that accept any value."""

    def check(self, function, expected, *given):
        # Not in a message: some of the values can't be shown.
        if function(*given) is not expected:
            kinds = ", ".join(type(value).__name__ for value in given)
            self.fail(f"{function.__name__} of {kinds} is not {expected}")

    def check_shown(self, function, expected, *given):
        with self.subTest(given=given):
            self.assertIs(function(*given), expected)


def put(value, path, item):
    """The tuple with another item at the place that the path of indexes leads to."""
    if len(path) == 0:
        return item
    inner = put(value[path[0]], path[1:], item)
    return value[:path[0]] + (inner,) + value[path[0] + 1:]


def paths(value, path=()):
    """The paths to the value and to all items in it, at any depth."""
    yield path
    if type(value) is tuple:
        for at, item in enumerate(value):
            yield from paths(item, path + (at,))


def at(value, path):
    for index in path:
        value = value[index]
    return value
