"""Frames: bytes with a check byte behind them."""

from lineasks.errors import NoFrame
from lineasks.wholes import are_bytes, is_byte_tuple


def is_frame(thing):
    """Whether any thing is a frame."""
    return is_byte_tuple(thing, 2, 20) and sum(thing) % 256 == 0


def framed(parts):
    """The frame of a list or a tuple of 1 to 19 bytes."""
    if not isinstance(parts, (list, tuple)) or not are_bytes(parts, 1, 19):
        raise NoFrame("not a list or a tuple of 1 to 19 bytes")
    return (*parts, -sum(parts) % 256)
