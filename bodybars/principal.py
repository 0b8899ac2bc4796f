"""The PRINCIPAL ROW ([48])."""

from bodybars.extremes import coarsest_by, finest_by
from bodybars.frames import need_frame
from bodybars.packings import count_of
from bodybars.woods import greatest_packing


def principal_row(frame):
    """For K from 1 to D the triple of RANK(K), the finest and the coarsest PARTING with the least BOUND(K)."""
    need_frame(frame)
    return tuple([principal_part(frame, numbers) for numbers in range(1, frame[0] + 1)])


def principal_part(frame, numbers):
    """The triple for one K."""
    packing = greatest_packing(frame, numbers=numbers)
    return (count_of(packing), finest_by(frame, packing, numbers), coarsest_by(frame, packing, numbers))
