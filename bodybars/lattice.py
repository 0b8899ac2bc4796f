"""Finer, common and joined PARTINGS ([33])."""

from bodybars.basics import join_marks
from bodybars.partings import lots_by_marks, need_lone_parting, need_parting


def need_both(one, other):
    """Checks one PARTING, then another one of as many bodies."""
    need_lone_parting(one)
    need_parting(len(one), other)


def is_finer(one, other):
    """Whether each lot of one lies in a lot of other."""
    return common_parting(one, other) == one


def common_parting(one, other):
    """The PARTING in which bodies are together if they are so in both."""
    need_both(one, other)
    return lots_by_marks(list(zip(one, other)))


def joined_parting(one, other):
    """The finest PARTING that both are finer than."""
    need_both(one, other)
    marks = list(range(len(one)))
    for parting in (one, other):
        for body, lot in enumerate(parting):
            join_marks(marks, parting.index(lot), body)
    return lots_by_marks(marks)
