"""Judged: a paper, or a fault, or left open by name."""

from dropsums.falling import falls
from dropsums.faulting import fault_of
from dropsums.finding import paper_for


def judged(pot, ask):
    """("paper", paper), else ("fault", fault), else ("open", "round") or ("open", "tree")."""
    paper = paper_for(pot, ask)
    if paper is not None:
        return ("paper", paper)
    fault = fault_of(pot, ask)
    if fault is not None:
        return ("fault", fault)
    return ("open", "round" if falls(pot)[0] == "round" else "tree")
