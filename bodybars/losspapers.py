"""LOOSENING PAPERS and STAYING PAPERS: what is lost within a BUDGET ([63])."""

from bodybars.basics import is_row, is_whole
from bodybars.bounds import bound_by
from bodybars.costs import need_costs
from bodybars.errors import BadBudget, TooGreat
from bodybars.extremes import coarsest_by
from bodybars.lossbounds import least_loss_by
from bodybars.losses import is_loss, packing_without, without_by
from bodybars.packings import count_of, is_packing
from bodybars.partings import parting_fault
from bodybars.woods import greatest_of

MOST_ROWS = 2000
GREATEST_BUDGET = 10 ** 9


def need_budget(frame, costs, budget):
    """The BUDGET, behind the errors of the frame and the COSTS."""
    need_costs(frame, costs)
    if not is_whole(budget, 0, GREATEST_BUDGET):
        raise BadBudget(budget)
    return budget


def cost_of(costs, loss):
    """What the joints of the LOSS cost together."""
    return sum([costs[joint] for joint in loss])


def loss_paper(frame, costs, budget):
    """A LOOSENING PAPER or a STAYING PAPER, behind its word."""
    need_budget(frame, costs, budget)
    packing = greatest_of(frame)
    least = least_loss_by(frame, costs)
    if least is None or least[0] > budget:
        rows = staying_rows(frame, costs, budget, packing)
        return ("staying", (coarsest_by(frame, packing, frame[0]), rows))
    left = without_by(frame, least[1])
    return ("loosening", (least[1], packing, coarsest_by(left, greatest_of(left), frame[0])))


def staying_rows(frame, costs, budget, packing):
    """The pairs of a LOSS and a PACKING without it that come from the pair of () and the PACKING, ascending."""
    found = {(): packing}
    waiting = [()]
    while waiting:
        loss = waiting.pop()
        for further in further_losses(costs, budget, loss, found[loss]):
            if further not in found:
                found[further] = packing_without(frame, found[loss], further)
                waiting.append(further)
        if len(found) > MOST_ROWS:
            raise TooGreat(MOST_ROWS)
    return tuple([(loss, found[loss]) for loss in sorted(found)])


def further_losses(costs, budget, loss, packing):
    """The LOSSES within the BUDGET that have one joint more: one that the PACKING uses."""
    left = budget - cost_of(costs, loss)
    used = [joint for joint, numbers in enumerate(packing) if numbers and costs[joint] <= left]
    return [tuple(sorted([*loss, joint])) for joint in used]


def loosening_fault(frame, costs, budget, paper):
    """The first word of what is wrong with a value that should be a LOOSENING PAPER, "" of one."""
    need_budget(frame, costs, budget)
    if not is_row(paper, 3) or not is_loss(frame, paper[0]) or not is_packing(frame, paper[1]):
        return "form"
    loss, packing, parting = paper
    if parting_fault(frame[1], parting) is not None:
        return "form"
    if cost_of(costs, loss) > budget:
        return "cost"
    bound = bound_by(without_by(frame, loss), parting, frame[0])
    return "" if bound < count_of(packing) else "count"


def staying_fault(frame, costs, budget, paper):
    """The first word of what is wrong with a value that should be a STAYING PAPER, "" of one."""
    need_budget(frame, costs, budget)
    if not is_staying_form(frame, paper):
        return "form"
    parting, rows = paper
    losses = [loss for loss, packing in rows]
    if losses[:1] != [()] or any(one >= other for one, other in zip(losses, losses[1:])):
        return "order"
    if any(cost_of(costs, loss) > budget for loss in losses):
        return "cost"
    bound = bound_by(frame, parting, frame[0])
    if not all(is_left_packing(loss, packing, bound) for loss, packing in rows):
        return "count"
    told = {loss: True for loss in losses}
    for loss, packing in rows:
        if not all(further in told for further in further_losses(costs, budget, loss, packing)):
            return "lack"
    return ""


def is_staying_form(frame, paper):
    """Whether paper is a pair of a PARTING and a tuple of pairs of a LOSS and a PACKING."""
    if not is_row(paper, 2) or parting_fault(frame[1], paper[0]) is not None or type(paper[1]) is not tuple:
        return False
    return all(is_row(row, 2) and is_loss(frame, row[0]) and is_packing(frame, row[1]) for row in paper[1])


def is_left_packing(loss, packing, bound):
    """Whether the PACKING uses no joint of the LOSS and has the BOUND as its COUNT."""
    return count_of(packing) == bound and not any(packing[joint] for joint in loss)
