"""Texts of frames."""

from lineasks.errors import NoFrame, NoText
from lineasks.frames import is_frame

SIGNS = "0123456789abcdef"


def frame_text(frame):
    """The writing of a frame."""
    if not is_frame(frame):
        raise NoFrame("not a frame")
    return " ".join([f"{byte:02x}" for byte in frame])


def written_byte(text):
    """The byte that two signs write; NoText of other texts."""
    # int(text, 16) takes great letters, signs, blanks and other figures too.
    if len(text) != 2 or text[0] not in SIGNS or text[1] not in SIGNS:
        raise NoText("not a byte of two signs")
    return SIGNS.index(text[0]) * 16 + SIGNS.index(text[1])


def read_frame(text):
    """The frame of which any thing is the writing."""
    if not isinstance(text, str):
        raise NoText("not a text")
    frame = tuple([written_byte(part) for part in text.split(" ")])
    if not is_frame(frame):
        raise NoText("not the writing of a frame")
    return frame
