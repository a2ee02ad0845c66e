"""Things of many kinds, for whatever must hold of anything."""


class Odd:
    """An object that no part of the program knows, and that is equal to anything."""

    def __eq__(self, other):
        return True

    def __hash__(self):
        return 0


class Wordy:
    """An object that can be read as a text, a number and a list, and is none of them."""

    def __str__(self):
        return "1"

    def __int__(self):
        return 1

    def __index__(self):
        return 1

    def __len__(self):
        return 1

    def __getitem__(self, at):
        return [1][at]


def a_function(thing):
    return thing


def no_texts():
    """Things that are neither texts nor whole numbers."""
    return [
        None, True, False, b"", b"1", b"abc", bytearray(b"a"),
        [], [1], [None], ["a"], ["1"], [True], (), (1,), ("a",), (1, 2, 3), {}, {1: 2}, {"a": 1},
        set(), {1}, {"a"}, frozenset(), range(3), object(), Odd(), Wordy(), a_function, int, Odd,
        ValueError("1"), Ellipsis, NotImplemented, iter([1]), [[]], [()], [[1, 1]], ((1, 1),),
    ]


def no_numbers():
    """Things that are no whole numbers."""
    return no_texts() + ["", "a", "abc", "0", "1", "-1", "abc def", "\n"]
