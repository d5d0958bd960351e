"""Things of any kind, as callers may hand them in, and how to go over them."""

ENDS = (-1, 0, 1, 2, 8, 9, 15, 16, 17, 99, 100, 129, 130, 131, 132, 254, 255, 256, 257, 10 ** 30, -256)

NESTED = (
    ((1, 255),),
    ((((0, 0),),),),
    [[[[[1]]]]],
    (((((1, 255), 255), 1), 2), 3),
    [(1, 255), [1, 255]],
    (("read", 1, 0, 0, 1),),
    [("done", 1, 0)],
    (("values", 1, 0, (1,)), None),
    ("read", ("read", 1, 0, 0, 1), 0, 0, 1),
    ("values", 1, 0, ((((1,),),),)),
    ("write", 1, 0, 0, ([[[1]]],)),
)

PLAIN = ENDS + (
    True, False, None,
    "", "a", "read", "write", "values", "done", "unread", "unwritten", "\x01\xff", "1",
    [], (), [None], (None,), [True], (True,), (False,), [0], (0,), ("",), [""],
    [0, 0], [1, 255], [255, 1], ["read", 1, 0, 0, 1], ["write", 1, 0, 0, (1,)], ["done", 1, 0],
    (True, 255), (False, 0), (255, True), ("1", "255"), (None, None), (1, None), ("a", "b"),
    (1, 254), (1, 256), (-1, 1), (-1, 257), (256, 0), (0, 256), (512, -256), (1,), (256,),
    ("read",), ("write",), ("done",), ("done", 1), ("values", 1, 0), ("unread", 1, 0),
    ("unwritten", 1), ("ask", 1, 0, 0, 1), (None, 1, 0, 0, 1), (1, 1, 0, 0, 1), (["read"], 1, 0, 0, 1),
    ("READ", 1, 0, 0, 1), ("answer", 1, 0, 1), (None, 1, 0), (("done",), 1, 0), ("done", None, None),
    ("read", None, None, None, None), ("write", [], [], [], []), ("write", "", "", "", ""),
    ("values", (), (), ()), ("unread", [1], [0], [1]),
)

# None of these is a frame, an ask or an answer; some are lists or tuples of bytes.
ODD = PLAIN + NESTED

TRUTHS = (True, False)


def with_one(tup, at, thing):
    """The tuple with another thing at one place."""
    return tup[:at] + (thing,) + tup[at + 1:]


def checked(*parts):
    """A frame of parts, worked out apart from the program."""
    last = 0
    while (sum(parts) + last) % 256 != 0:
        last += 1
    return tuple(parts) + (last,)


def is_exactly(one, other):
    """Whether both are equal and of the same kinds throughout."""
    if type(one) is not type(other):
        return False
    if isinstance(one, (list, tuple)):
        return len(one) == len(other) and all(map(is_exactly, one, other))
    return one == other
