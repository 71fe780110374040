"""The refusals: each kind stands under NetError, and none under another kind."""


class NetError(ValueError):
    """Something that was handed in is refused."""


class NoText(NetError):
    """A thing that is not the text of what was to be read."""


class NoRow(NetError):
    """A thing that is not a row that a desk understands."""


class TooMany(NetError):
    """A net with too many wires or free switches to go through."""
