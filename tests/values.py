"""Values of every kind, for what may be any value."""


class Sly:
    """It calls itself equal to everything."""

    def __eq__(self, other):
        return True

    def __hash__(self):
        return 1


class Sour:
    """It cannot be compared, measured, tested, shown or hashed."""

    __hash__ = None

    def __eq__(self, other):
        raise RuntimeError("not compared")

    def __len__(self):
        raise RuntimeError("not measured")

    def __bool__(self):
        raise RuntimeError("not tested")

    def __repr__(self):
        raise RuntimeError("not shown")


def deep(levels):
    """A tuple nested so deep that comparing it would end in a RecursionError."""
    value = ()
    for _ in range(levels):
        value = (value,)
    return value


# None of these is a step, a deed or an index.
ODD = [
    None, True, False, 0.0, 1.0, 2.5, float("nan"), float("inf"), 1j, "", "0", "drop", "run", "make all", b"", b"run",
    (), (0,), (None,), ("",), ((),), ([],), ({},), ((("drop",),),), (("run",),), [], ["drop"], ["run"], [("drop",)],
    ["make", "all"], ["add", 1, 1], {}, {"drop": 1}, {"drop"}, frozenset(["drop"]), range(3), len, int, object(),
    Ellipsis, NotImplemented, slice(0, 1), Sly(), (Sly(),), (Sly(), Sly()), ("make", Sly()), ("add", Sly(), Sly()),
    Sour(), (Sour(),), ("drop", Sour()), deep(5000), ("make", deep(5000)), 10 ** 6000, -10 ** 6000, ("x" * 5000,),
]
