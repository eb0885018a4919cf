"""Playing a run on integers."""


def played(run, rule, *, start=None):
    """The tuple of the list of the values that each thread reads, and of the values of the variables at the end."""
    values = {variable: 0 for variable in run.program.variables}
    if start is not None:
        values.update(start)
    reads = [[] for _ in run.threads]
    for position, (thread, _) in enumerate(run.events):
        written = run.step(position)
        if written[0] == "read":
            reads[thread].append(values[written[1]])
        elif written[0] == "write":
            values[written[1]] = rule(tuple(reads[thread]))
        elif written[0] == "add":
            values[written[1]] = values[written[1]] + rule(tuple(reads[thread]))
    return reads, values
