"""Values that several test files need."""

DESKS = ("front", "back")
REPLY = ("letter", (), (("reply",),))
STOP = ("letter", (), (("stop",),))


class Alike:
    """An object that calls itself equal to everything, and has no hash."""

    def __eq__(self, other):
        return True

    __hash__ = None


class Touchy:
    """An object that can not be compared, told or tested."""

    def _fail(self, *told):
        raise RuntimeError("this object is not asked")

    __eq__ = __ne__ = __bool__ = __len__ = __repr__ = __str__ = _fail
    __hash__ = None


def odd_values():
    """Values of all kinds that are no tuple, no list, no string and no integer."""
    return [None, True, False, 1.0, b"new", {}, {"new": 1}, {"new"}, object(), Alike(), Touchy(), len, str]
