"""The fewest ties that can be wrong, counted post by post.

The *edge* is made of the posts so far that are tied to later ones. A *view* tells of each of them the first
post of the edge to which it is joined by right ties, and its height above that one: nothing else matters for
what is still to come. So of all that leads to one view only the fewest wrong ties are kept, and this is fast
also for nets that have too many least sets to go through them all.
"""


def fewest(net, readings):
    """The least number of wrong ties of an explanation."""
    edge = []
    views = {(): 0}
    for post in range(net.posts):
        edge = [*edge, post]
        views = {(*view, (post, 0)): many for view, many in views.items()}
        for at in net.ties_at(post):
            if max(net.ties[at]) == post:
                views = _decided(views, edge, net.ties[at], readings[at])
        ahead = [tie for tie in net.ties if min(tie) <= post < max(tie)]
        left = sorted(set([min(tie) for tie in ahead]))
        views = _with_few(_narrowed(views, edge, left), len(ahead))
        edge = left
    return views[()]


def _decided(views, edge, tie, reading):
    """The views behind a tie between posts of the edge."""
    first, second = [edge.index(post) for post in tie]
    found = {}
    for view, many in views.items():
        (start, low), (other, high) = view[first], view[second]
        if (start, high - low) == (other, reading):
            _keep(found, view, many)
        else:
            _keep(found, view, many + 1)
        if start != other:
            _keep(found, _with_right(view, edge, other, (start, low + reading - high)), many)
    return found


def _with_right(view, edge, moved, place):
    """The view when the posts that had the start `moved` stand on this place."""
    start, level = place
    return _view(edge, [(start, level + high) if other == moved else (other, high) for other, high in view])


def _narrowed(views, edge, left):
    """The views of the posts of the edge that are left."""
    found = {}
    for view, many in views.items():
        _keep(found, _view(left, [place for post, place in zip(edge, view) if post in left]), many)
    return found


def _view(posts, places):
    """The view of posts with these places: each above the first one that has its start."""
    firsts = {}
    found = []
    for post, (start, level) in zip(posts, places):
        first, low = firsts.setdefault(start, (post, level))
        found.append((first, level - low))
    return tuple(found)


def _keep(views, view, many):
    """Keep a view with as many wrong ties, if it had no fewer."""
    views[view] = min(many, views.get(view, many))


def _with_few(views, ahead):
    """The views but for those that are no better than another one if all `ahead` ties from the edge on are wrong."""
    least = min(views.values())
    return {view: many for view, many in views.items() if many == least or many < least + ahead}
