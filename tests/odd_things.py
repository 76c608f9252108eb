"""Things for tests: those that are names, and those of many kinds that are none."""

NAMES = ["a", "z", "m", "ab", "zz", "house", "abcdefgh", "zzzzzzzz", "aaaaaaaa"]

NO_NAME_TEXTS = [
    "", " ", "abcdefghi", "a" * 9, "a" * 100, "A", "Z", "aB", "Ab", "HOUSE", "0", "7", "a1", "1a",
    "a b", " a", "a ", "a-b", "a_b", "_", "-", "~", "`", "{", "@", "[", "a.", "a,b", "a\n", "\na", "\n", "a\nb",
    "None", "True",
]


def other_kinds():
    """What is no text and not None, made anew at each call."""
    return [
        True, False, 0, 1, -1, 97, 10 ** 30, b"", b"a", b"ab", [], ["a"], [["a"]], [None],
        (), ("a",), ("a", "b"), (("a",),), {}, {"a": "b"}, {"a": True}, {"a"}, object(),
    ]


def no_names():
    """What is no name, of any kind but None."""
    return NO_NAME_TEXTS + other_kinds()


def no_names_nor_none():
    """What is no name, of any kind, None too."""
    return [None] + no_names()
