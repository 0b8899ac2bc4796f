"""MENUS of bars that may be added, CHOICES of them, and MENU PAPERS ([74])."""

from bodybars.basics import is_ascending, is_row, is_whole
from bodybars.bounds import bound_by
from bodybars.cheapest import greedy_packing, order_by
from bodybars.costs import DEAREST
from bodybars.errors import BadMenu
from bodybars.extremes import coarsest_by
from bodybars.fillings import free_by, is_pair, with_bars
from bodybars.frames import MOST_JOINTS, need_frame
from bodybars.packings import count_of, is_packing
from bodybars.partings import parting_fault
from bodybars.woods import greatest_of


def menu_fault(frame, value):
    """The fault of a value that should be a MENU of the frame, None of a MENU."""
    need_frame(frame)
    if type(value) is not tuple or len(frame[2]) + len(value) > MOST_JOINTS:
        return -1
    for place, item in enumerate(value):
        if not is_row(item, 3) or not is_pair(frame, item[:2]) or not is_whole(item[2], 1, DEAREST):
            return place
    return None


def need_menu(frame, value):
    """The MENU; BadMenu(place) of any other value."""
    fault = menu_fault(frame, value)
    if fault is not None:
        raise BadMenu(fault)
    return value


def with_items(frame, menu, items):
    """The FRAME with these items of the MENU as bars."""
    return with_bars(frame, [menu[item][:2] for item in items])


def items_within(menu, cost):
    """The numbers of the items that cost at most so much."""
    return [item for item, (one, other, number) in enumerate(menu) if number <= cost]


def menu_levels(menu):
    """The LEVELS of the MENU."""
    return sorted(set([cost for one, other, cost in menu]))


def with_all(frame, menu):
    """The FRAME with all items."""
    return with_items(frame, menu, items_within(menu, DEAREST))


def chosen_by(frame, menu):
    """A PACKING of the FRAME with all items, those alone having numbers that the greedy CHOICE has."""
    joints = list(range(len(frame[2])))
    behind = [len(joints) + item for item in order_by([cost for one, other, cost in menu])]
    return greedy_packing(with_all(frame, menu), joints + behind)


def choice_of(frame, menu):
    """The greedy CHOICE."""
    need_menu(frame, menu)
    return choice_by(frame, chosen_by(frame, menu))


def choice_by(frame, packing):
    """The CHOICE of the items that have numbers in the PACKING."""
    return tuple([item for item, numbers in enumerate(packing[len(frame[2]):]) if numbers])


def makes_stiff(frame, menu):
    """Whether the frame with all items is stiff."""
    need_menu(frame, menu)
    return free_by(with_all(frame, menu)) == 0


def menu_paper(frame, menu):
    """A MENU PAPER with the greedy CHOICE."""
    need_menu(frame, menu)
    packing = chosen_by(frame, menu)
    choice = choice_by(frame, packing)
    joints = packing[:len(frame[2])]
    taken = joints + tuple([packing[len(frame[2]) + item] for item in choice])
    partings = [least_of(frame)]
    for level in menu_levels(menu):
        partings.append(least_of(with_items(frame, menu, items_within(menu, level))))
    return (choice, taken, tuple(partings))


def least_of(frame):
    """The coarsest least PARTING."""
    return coarsest_by(frame, greatest_of(frame), frame[0])


def menu_paper_fault(frame, menu, paper):
    """The first word of what is wrong with a value that should be a MENU PAPER, "" of one."""
    need_menu(frame, menu)
    if not is_row(paper, 3):
        return "form"
    choice, packing, partings = paper
    if not is_ascending(choice, len(menu)):
        return "choice"
    if not is_packing(with_items(frame, menu, choice), packing):
        return "packing"
    levels = menu_levels(menu)
    if not is_row(partings, len(levels) + 1):
        return "parting"
    if any(parting_fault(frame[1], parting) is not None for parting in partings):
        return "parting"
    return bounds_fault(frame, menu, count_of(packing), choice, partings)


def bounds_fault(frame, menu, count, choice, partings):
    """The word of the first PARTING whose BOUND isn't the number told, "" if all are."""
    if bound_by(frame, partings[0], frame[0]) != count - len(choice):
        return "frame"
    for level, parting in zip(menu_levels(menu), partings[1:]):
        cheap = with_items(frame, menu, items_within(menu, level))
        dearer = [item for item in choice if menu[item][2] > level]
        if bound_by(cheap, parting, frame[0]) != count - len(dearer):
            return "level"
    return ""
