"""The judge of seams: it accepts a choice with a flow that shows that no choice costs less."""

from laidviews.flow import is_flow, worth
from laidviews.kinds import is_tuple_of, is_whole
from laidviews.quilt import lay_over, values
from laidviews.seam import choice_flaw, cost, net_of


def bad_seam(base, over, bound, value):
    """Return None for an accepted paper of a seam, otherwise the word for what is wrong first."""
    if not is_tuple_of(value, 2) or not isinstance(value[0], dict) or not isinstance(value[1], tuple):
        return "form"
    choice, flow = value
    flaw = choice_flaw(base, over, bound, choice)
    if flaw is not None:
        return flaw
    count, edges = net_of(base, over, bound)
    if not is_flow(count, edges, list(flow)):
        return "flow"
    if worth(edges, flow) != cost(base, over, choice):
        return "worth"
    return None


def accepts_seam(base, over, bound, value):
    """Tell whether a value of any kind is an accepted paper of a seam."""
    return bad_seam(base, over, bound, value) is None


def _accepts_step(base, layer, step):
    """Tell whether a value of any kind is the step of a layer that is laid over a base."""
    if not is_tuple_of(step, 3):
        return False
    name, told_cost, paper = step
    if not isinstance(name, str) or name != layer[0] or not is_whole(told_cost):
        return False
    return accepts_seam(base, layer[1], (), paper) and told_cost == cost(base, layer[1], paper[0])


def _has_different_names(layers):
    return len({name for name, _ in layers}) == len(layers)


def accepts_quilt(layers, steps):
    """Tell whether a value of any kind are the steps of a quilt of these layers."""
    if not isinstance(steps, (list, tuple)) or not _has_different_names(layers):
        return False
    if len(steps) != max(0, len(layers) - 1):
        return False
    lying = {}
    for layer in layers[:1]:
        lying = lay_over(lying, layer, {})
    for layer, step in zip(layers[1:], steps):
        if not _accepts_step(values(lying), layer, step):
            return False
        lying = lay_over(lying, layer, step[2][0])
    return True
