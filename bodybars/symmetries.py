"""How many SYMMETRIES a FRAME has ([36])."""

from bodybars.frames import need_frame
from bodybars.oneform import numberings_number


def symmetries(frame):
    """How many NUMBERINGS have the greatest TABLE."""
    need_frame(frame)
    return numberings_number(frame)
