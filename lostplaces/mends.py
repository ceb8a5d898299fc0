"""Goals, the fewest edits that meet them and the fewest that spoil them."""

from lostplaces.cuttings import Told, cuts_told
from lostplaces.doubles import runs_borne
from lostplaces.edits import check_edits, edited_units
from lostplaces.errors import BadEdit, BadGoal
from lostplaces.judged import borne_of
from lostplaces.words import is_whole

MOST_EDITS = 6
MOST_GOALS = 4
# How many entries a goal has, by its first word.
ENTRIES = {"bears": 2, "runs": 2, "size": 2, "cuts": 1, "wait": 2}


def goal_met(units, goal):
    """Tell whether the units meet the goal."""
    if not _is_goal(goal):
        raise BadGoal(-1)
    kind = goal[0]
    if kind == "bears":
        return borne_of(units.book) >= goal[1]
    if kind == "runs":
        return runs_borne(units.book) >= goal[1]
    if kind == "size":
        return units.book.size >= goal[1]
    cuts = cuts_told(units)
    if not isinstance(cuts, Told):
        return False
    return kind == "cuts" or cuts.wait <= goal[1]


def _is_goal(goal):
    """Whether the thing has the form of a goal."""
    if not isinstance(goal, (list, tuple)) or not goal or not isinstance(goal[0], str):
        return False
    if ENTRIES.get(goal[0], 0) != len(goal):
        return False
    return len(goal) == 1 or is_whole(goal[1], 0)


def find_mends(units, edits, goals):
    """Return all lots with the fewest edits behind which every goal is met."""
    return _fewest(units, edits, goals, True)


def find_spoilers(units, edits, goals):
    """Return all lots with the fewest edits behind which some goal is not met."""
    return _fewest(units, edits, goals, False)


def _fewest(units, edits, goals, met):
    """All lots with the fewest edits behind which it is so, or not, that every goal is met."""
    _check_search(edits, goals)
    for many in range(len(edits) + 1):
        found = [lot for lot in _lots(len(edits), many) if _serves(units, edits, goals, lot, met)]
        if found:
            return tuple(found)
    return ()


def _check_search(edits, goals):
    """Raise BadEdit or BadGoal unless there are edits and goals, and few of them."""
    check_edits(edits, MOST_EDITS)
    if len(edits) == 0:
        raise BadEdit(-1, "many")
    if not isinstance(goals, (list, tuple)) or len(goals) == 0 or len(goals) > MOST_GOALS:
        raise BadGoal(-1)
    for index, goal in enumerate(goals):
        if not _is_goal(goal):
            raise BadGoal(index)


def _lots(edits, many):
    """All ascending tuples of so many unlike indexes of edits, in ascending order."""
    lots = [()]
    for _ in range(many):
        lots = [lot + (at,) for lot in lots for at in range(max(lot, default=-1) + 1, edits)]
    return lots


def _serves(units, edits, goals, lot, met):
    """Whether the edits of the lot can be done and then it is so, or not, that all goals are met."""
    try:
        edited = edited_units(units, [edits[index] for index in lot])
    except BadEdit:
        return False
    for goal in goals:
        if not goal_met(edited, goal):
            return not met
    return met
