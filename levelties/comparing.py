"""Which of two nets has more ties across lots, and which further tie is worth most."""

from levelties.deciding import held_lots, least_cut, seen, told


def no_worse(p, q):
    """Whether across each lot p has at least as many ties as q."""
    return weaker(p, q) is None


def weaker(p, q):
    """Some lot across which p has fewer ties than q, or None.

    It is decided post by post what is in the lot. The *edge* is made of the decided posts that matter for waiting
    ones. Of all lots with the same posts of the edge only the one across which p has least is kept.
    """
    more = _more(p, q)
    waiting = {post: True for post in range(p.posts) if more[post]}
    edge = []
    views = {(): (0, ())}
    while waiting:
        post = _next_post(more, waiting, edge)
        views = _decided(views, edge, post, more[post])
        edge = _edge_behind(more, waiting, edge, post)
        del waiting[post]
        views = _narrowed(views, edge, _most_ahead(more, waiting, edge))
    many, lot = views[()]
    return tuple(sorted(lot)) if many < 0 else None


def alike(p, q):
    """Whether across each lot both have as many ties."""
    # How many ties two posts have in common follows from how many are across each of them, and across both.
    return not any(_more(p, q))


def worth(net, a, b):
    """The pair of how much is seen and told with a further tie between these posts."""
    mended = net.further([(a, b)])
    return seen(mended), told(mended)


def best_ties(net):
    """The ascending tuple of all pairs of posts whose worth is greatest."""
    least = least_cut(net)
    if least is None:
        return ()
    # Only a tie that is across all lots with the fewest ties across is worth more than others. Within each
    # of these lots and within its rest there is one of the ends: these are such lots that no other one parts.
    ends = [lot for lot in held_lots(net, least + 1) if len(net.across(lot)) == least]
    if len(ends) == 2:
        return tuple(sorted([(min(a, b), max(a, b)) for a in ends[0] for b in ends[1]]))
    return tuple([(a, b) for a in range(net.posts) for b in range(a + 1, net.posts)])


def _more(p, q):
    """For each post a dict from other posts to how many more ties with it p has than q, but for 0."""
    found = [{} for _ in range(p.posts)]
    for net, sign in ((p, 1), (q, -1)):
        for a, b in net.ties:
            found[a][b] = found[a].get(b, 0) + sign
            found[b][a] = found[b].get(a, 0) + sign
    return [{other: many for other, many in row.items() if many != 0} for row in found]


def _next_post(more, waiting, edge):
    """The waiting post to be decided next: one that keeps the edge small."""
    near = [other for post in edge for other in more[post] if other in waiting]
    choice = sorted(set(near)) if near else list(waiting)
    sizes = [(len(_edge_behind(more, waiting, edge, post)), len(more[post]), post) for post in choice]
    return min(sizes)[2]


def _edge_behind(more, waiting, edge, post):
    """The edge when a post is decided, too."""
    return [one for one in [*edge, post] if any([other in waiting and other != post for other in more[one]])]


def _decided(views, edge, post, row):
    """The views when a further post is decided: for each one, that it is not in the lot, and that it is.

    A view goes from the posts of the edge that are in the lot to how many more ties across p has so far, and the lot.
    """
    found = {}
    for inside, (many, lot) in views.items():
        to_lot = sum([row.get(other, 0) for other in inside])
        to_rest = sum([row.get(other, 0) for other in edge if other not in inside])
        with_post = (*inside, post)
        found[inside] = (many + to_lot, lot)
        found[with_post] = (many + to_rest, (*lot, post))
    return found


def _most_ahead(more, waiting, edge):
    """How much the ties between the edge and the waiting posts can matter at most."""
    return sum([abs(many) for post in edge for other, many in more[post].items() if other in waiting])


def _narrowed(views, edge, ahead):
    """The views of a smaller edge, but for those that cannot become better than the best one."""
    found = {}
    for inside, view in views.items():
        left = tuple([post for post in inside if post in edge])
        found[left] = min(view, found.get(left, view))
    least = min([many for many, _ in found.values()])
    return {inside: view for inside, view in found.items() if view[0] == least or view[0] < least + ahead}
