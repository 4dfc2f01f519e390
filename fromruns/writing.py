"""The texts of runs and of machines."""


def write_runs(runs):
    """Return the text of the runs, a line for each, as they stand."""
    return "".join([(run or ".") + "\n" for run in runs])


def write_machine(machine):
    """Return the text of the machine."""
    rows, ends = machine
    lines = [f"states {len(rows)}"]
    for state, row in enumerate(rows):
        lines.append("end" if state in ends else "state")
        lines.extend([f"{letter} {there}" for letter, there in row])
    return "".join([line + "\n" for line in lines])
