"""FREE SCREWS, ROUNDS of CHORDS and LOOP MATRIX: LEFT and PURE in another way ([96])."""

from bodybars.basics import join_marks, need_joint
from bodybars.errors import Apart, NotChord
from bodybars.frames import joint_sizes, need_frame
from bodybars.jointrows import rows_across, rows_by, turned_line
from bodybars.lines import line_by
from bodybars.placements import need_placement
from bodybars.rows import determinant_by, rank_by
from bodybars.screws import turn_at
from bodybars.squares import need_square
from bodybars.woodways import hung_wood, path_in


def free_screws(frame, placement, joint):
    """The FREE SCREWS of a joint."""
    need_placement(frame, placement)
    need_joint(frame, joint)
    return screws_by(frame[0], frame[2][joint][0], placement[joint])


def screws_by(dimension, kind, thing):
    """The FREE SCREWS of a joint of this kind that thing places."""
    if kind == "weld":
        return ()
    if kind == "pin":
        return (turn_at(thing),)
    if kind == "hinge":
        return (turned_line(line_by(thing[0], thing[1])),)
    return rows_across(rows_by(dimension, kind, thing)[0], 0)


def tree_joints(frame):
    """The TREE JOINTS, ascending."""
    need_frame(frame)
    marks = list(range(frame[1]))
    return tuple([joint for joint, (kind, one, other) in enumerate(frame[2]) if join_marks(marks, one, other)])


def chords(frame):
    """The CHORDS, ascending."""
    tree = tree_joints(frame)
    return tuple([joint for joint in range(len(frame[2])) if joint not in tree])


def pieces_number(frame):
    """In how many pieces the bodies hang together by the joints."""
    return frame[1] - len(tree_joints(frame))


def round_of(frame, chord):
    """The ROUND of a CHORD."""
    need_frame(frame)
    need_joint(frame, chord)
    if chord in tree_joints(frame):
        raise NotChord(chord)
    return round_by(frame, chord)


def round_by(frame, chord):
    """The ROUND of what is known to be a CHORD."""
    kind, goal, body = frame[2][chord]
    told = [(chord, 1)]
    for joint in path_in(hung_wood(frame, tree_joints(frame)), body, goal):
        kind, one, other = frame[2][joint]
        told.append((joint, 1 if body == one else -1))
        body = one + other - body
    return tuple(told)


def loop_matrix(frame, placement):
    """The rows of LOOP MATRIX."""
    need_placement(frame, placement)
    dimension, many, joints = frame
    screws = [screws_by(dimension, joint[0], thing) for joint, thing in zip(joints, placement)]
    matrix = []
    for chord in chords(frame):
        signs = {joint: sign for joint, sign in round_by(frame, chord)}
        columns = [
            [signs.get(joint, 0) * number for number in screw] for joint, row in enumerate(screws) for screw in row
        ]
        matrix.extend([tuple([column[place] for column in columns]) for place in range(dimension)])
    return tuple(matrix)


def left_by_loops(frame, placement):
    """LEFT at the PLACEMENT, by LOOP MATRIX."""
    rank = rank_by(loop_matrix(frame, placement))
    free = sum([frame[0] - size for size in joint_sizes(frame)])
    return free - rank + frame[0] * (pieces_number(frame) - 1)


def loop_pure(frame, placement):
    """The determinant of LOOP MATRIX without its sign; Apart(PIECES) of a frame in several pieces."""
    need_placement(frame, placement)
    many = pieces_number(need_square(frame))
    if many > 1:
        raise Apart(many)
    return abs(determinant_by(loop_matrix(frame, placement)))
