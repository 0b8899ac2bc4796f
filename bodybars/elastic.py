"""COMPLIANCES, ENERGY and ELASTIC ANSWERS ([157])."""

from math import lcm

from bodybars.basics import are_integers, is_row, is_whole
from bodybars.errors import BadCompliance, BadNumber, BadRow, Yields
from bodybars.forces import answer_by, bears, need_load_of
from bodybars.frames import joint_sizes, need_frame
from bodybars.jointrows import matrix_by
from bodybars.lines import lowest
from bodybars.placements import need_placement
from bodybars.rows import dot
from bodybars.spans import is_count, multiples_by
from bodybars.stresses import are_forces, cut, written

SOFTEST = 100


def need_compliances(frame, value):
    """The COMPLIANCES; BadCompliance(place) of any other value."""
    need_frame(frame)
    return need_compliances_of(frame, value)


def need_compliances_of(frame, value):
    """The COMPLIANCES of what is known to be a FRAME."""
    if not is_row(value, len(frame[2])):
        raise BadCompliance(-1)
    for place, number in enumerate(value):
        if not is_whole(number, 1, SOFTEST):
            raise BadCompliance(place)
    return value


def each_row(frame, compliances):
    """For each row of MATRIX the COMPLIANCE of its joint."""
    return [number for number, size in zip(compliances, joint_sizes(frame)) for _ in range(size)]


def elastic(frame, placement, compliances, load):
    """An ELASTIC ANSWER to the LOAD; Yields(motion) if it is moved."""
    need_placement(frame, placement)
    need_compliances_of(frame, compliances)
    need_load_of(frame, load)
    matrix = matrix_by(frame, placement)
    softness = each_row(frame, compliances)
    common = lcm_of(softness)
    stiffness = [common // number for number in softness]
    # A borne LOAD is in the span of these rows just as it is in that of MATRIX.
    found = multiples_by(stiffness_rows(matrix, stiffness, len(load)), len(load), load)
    if found is None:
        raise Yields(answer_by(frame, matrix, load)[1])
    count, move = found
    forces = [times * dot(row, move) for times, row in zip(stiffness, matrix)]
    count, numbers = lowest(count, [*forces, *[common * number for number in move]])
    return (count, cut(frame, numbers), numbers[len(matrix):])


def lcm_of(numbers):
    """The least common multiple."""
    common = 1
    for number in numbers:
        common = lcm(common, number)
    return common


def stiffness_rows(matrix, stiffness, wide):
    """For each column what the forces make that a move by 1 there calls forth."""
    rows = [[0] * wide for column in range(wide)]
    for row, times in zip(matrix, stiffness):
        used = [column for column in range(wide) if row[column] != 0]
        for column in used:
            stiff = rows[column]
            for onto in used:
                stiff[onto] += times * row[column] * row[onto]
    return rows


def energy(frame, compliances, count, forces):
    """ENERGY of the FORCES, divided by count, as (NUMERATOR, DENOMINATOR)."""
    need_compliances(frame, compliances)
    if not is_count(count):
        raise BadNumber(count)
    if not are_forces(frame, forces):
        raise BadRow(-1)
    parts = [soft * number * number for soft, number in zip(each_row(frame, compliances), written(forces))]
    denominator, (numerator,) = lowest(count * count, (sum(parts),))
    return (numerator, denominator)


def elastic_fault(frame, placement, compliances, load, answer):
    """The first word of what is wrong with a value that should be an ELASTIC ANSWER, "" of one."""
    need_placement(frame, placement)
    need_compliances_of(frame, compliances)
    need_load_of(frame, load)
    if not is_row(answer, 3) or not is_count(answer[0]) or not are_forces(frame, answer[1]):
        return "form"
    count, forces, move = answer
    if not are_integers(move, len(load)):
        return "form"
    matrix = matrix_by(frame, placement)
    if not bears(frame, matrix, load, count, forces):
        return "bears"
    stretched = [soft * number for soft, number in zip(each_row(frame, compliances), written(forces))]
    return "" if stretched == [dot(row, move) for row in matrix] else "moves"
