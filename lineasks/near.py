"""Frames near to bytes that are none."""

from lineasks.asks import frame_ask
from lineasks.errors import NoFrame
from lineasks.frames import is_frame
from lineasks.wholes import are_bytes


def check_parts(thing):
    """Refuses what is no list or tuple of as many bytes as a frame can have."""
    if not isinstance(thing, (list, tuple)) or not are_bytes(thing, 2, 20):
        raise NoFrame("not a list or a tuple of 2 to 20 bytes")


def unlike(one, other):
    """At how many places two parts are unlike."""
    check_parts(one)
    check_parts(other)
    alike = [mine for mine, yours in zip(one, other) if mine == yours]
    return max(len(one), len(other)) - len(alike)


def near_frames(parts):
    """The parts alone, if they are a frame; else all frames that are unlike at just one place, rising."""
    check_parts(parts)
    row = tuple(parts)
    if is_frame(row):
        return [row]
    # At each place just one byte takes away what the sum has too much.
    over = sum(row)
    return sorted([row[:at] + ((byte - over) % 256,) + row[at + 1:] for at, byte in enumerate(row)])


def meant(parts):
    """The asks whose frames are near, in the order of the frames."""
    asks = [frame_ask(frame) for frame in near_frames(parts)]
    return [ask for ask in asks if ask is not None]
