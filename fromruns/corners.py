"""Corners: three runs that ask for a fourth one."""

from fromruns.machines import takes


def three_runs(corner):
    """Return the tuple of the three runs of the corner."""
    u, z, v, w, x = corner
    return u + v + w, z + v + w, u + v + x


def fourth_run(corner):
    """Return the fourth run of the corner."""
    return corner[1] + corner[2] + corner[4]


def judge_fault(machine, k, corner):
    """Tell whether the corner is a fault of the machine."""
    if len(corner[2]) != k:
        return False
    if not all([takes(machine, run) for run in three_runs(corner)]):
        return False
    return not takes(machine, fourth_run(corner))
