"""Steps along ties, and flows by which posts are held together.

A flow says which ties are gone along, each once at most: it is a dict from such a tie (a, b)
to 1 if it is gone from a to b, to -1 if from b to a (ties with 0 or not in it are free).
"""


def steps(posts, ties, gone=()):
    """For each post the list of steps from it: (tie, post at its other end, 1 or -1 as in a flow).

    There are none along the ties whose numbers are gone.
    """
    table = [[] for _ in range(posts)]
    for at, (a, b) in enumerate(ties):
        if at not in gone:
            table[a].append((at, b, 1))
            table[b].append((at, a, -1))
    return table


def reach(table, flow, starts):
    """A dict of the posts to which more can still flow from the starts, on ways as short as can be.

    Each is a key behind the one that it is reached from, with the step that leads to it:
    (post ahead of it, tie, 1 or -1), or None for a start.
    """
    came = {start: None for start in starts}
    layer = starts
    while layer:
        layer = _next_layer(table, flow, layer, came)
    return came


def _next_layer(table, flow, layer, came):
    """The posts that come next: one step from the layer, and not yet among those that came, to which they are added."""
    found = []
    for post in layer:
        for at, other, way in table[post]:
            if other not in came and flow.get(at, 0) != way:
                came[other] = (post, at, way)
                found.append(other)
    return found


def spread(table):
    """All posts, as reach has them: from the first one, and again from each that was not reached yet."""
    came = {}
    for post in range(len(table)):
        if post not in came:
            came.update(reach(table, {}, [post]))
    return came


def first_joined(table):
    """For each post the first one to which the steps join it."""
    found = {}
    for post, step in spread(table).items():
        found[post] = post if step is None else found[step[0]]
    return [found[post] for post in range(len(table))]


def trail(came, goal):
    """The steps that lead to the goal, as reach has them, from the last one back to the first."""
    found = []
    step = came[goal]
    while step is not None:
        found.append(step)
        step = came[step[0]]
    return found


def contrary(flow):
    """The flow the other way: with it, reach goes from posts back to where more can come from."""
    return {at: -way for at, way in flow.items()}


def send(table, starts, goal, most):
    """A flow from the starts to the goal by as many ways as possible, but at most `most`, and how many."""
    flow = {}
    sent = 0
    while sent < most:
        came = reach(table, flow, starts)
        if goal not in came:
            break
        for _, at, way in trail(came, goal):
            # Against what flows there already, this sets the tie free.
            flow[at] = flow.get(at, 0) + way
        sent += 1
    return flow, sent


def lot_apart(table, starts, goal, need):
    """A lot with the starts, without the goal and with as few ties across as can be.

    None if these are `need` ties or more.
    """
    flow, sent = send(table, starts, goal, need)
    if sent == need:
        return None
    return tuple(sorted(reach(table, flow, starts)))


def lots_apart(table, starts, goal, many):
    """All lots with the starts and without the goal across which there are `many` ties, if none has fewer."""
    flow, sent = send(table, starts, goal, many + 1)
    if sent != many:
        return []
    back = contrary(flow)
    found = []
    # Across such a lot every tie is gone along outwards. So nothing more flows out of it,
    # and each post that is still free can be decided either way, with all that hangs on it.
    waiting = [(list(reach(table, flow, starts)), list(reach(table, back, [goal])))]
    while waiting:
        inside, outside = waiting.pop()
        free = [post for post in range(len(table)) if post not in inside and post not in outside]
        if free:
            waiting.append((list(reach(table, flow, [*inside, free[0]])), outside))
            waiting.append((inside, list(reach(table, back, [*outside, free[0]]))))
        else:
            found.append(tuple(sorted(inside)))
    return found
