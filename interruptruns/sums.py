"""Greatest sums along ways."""


def greatest_sums(edges):
    """Return the list of the greatest sums of gains along any way from each point.

    The edges are, for each point, a list of tuples that begin with a gain and
    the point behind it, None if the way ends. The sum is 0 for points without
    edges, and None where there are ways without an end.
    """
    sums = [None for rows in edges]
    # The points are settled from the ends on, when all that follow them are.
    missing = [len(inner_points(rows)) for rows in edges]
    ahead = points_ahead(edges)
    ready = [at for at, many in enumerate(missing) if many == 0]
    while ready:
        at = ready.pop()
        sums[at] = max([sum_along(edge, sums) for edge in edges[at]], default=0)
        for before in ahead[at]:
            missing[before] -= 1
            if missing[before] == 0:
                ready.append(before)
    return sums


def points_ahead(edges):
    """Return the list of the lists of the points from which edges lead to each point.

    A point stands there once for each of its edges.
    """
    ahead = [[] for rows in edges]
    for at, rows in enumerate(edges):
        for to in inner_points(rows):
            ahead[to].append(at)
    return ahead


def inner_points(rows):
    """Return the list of the points behind these edges."""
    return [edge[1] for edge in rows if edge[1] is not None]


def sum_along(edge, sums):
    """Return the greatest sum of the ways that begin with an edge; it has to have one."""
    return edge[0] if edge[1] is None else edge[0] + sums[edge[1]]
