"""Rows for the nodes of a graph, or a part of it that one can go round in for ever ([19], [21], [23])."""

from noneorsome.graphs import follow_edges, parts_of, paths_from, reached_from


def sieve(nodes, edges):
    """Return `(rows, ring)`: rows for the nodes that fall along all edges, and no ring.

    If there are no such rows, `ring` has the edges of a part in which all nodes reach each other and each counter
    that is taken from is added to as well, so that one can go round there for ever.
    """
    behind = follow_edges(nodes, edges)
    reached = {node: reached_from(node, behind) for node in nodes}
    rows = {}
    for part, inner in parts_of(nodes, edges, reached):
        rests, ring = sieve_part(part, inner)
        if len(ring) > 0:
            return {}, ring
        for node in part:
            # Fewer nodes are reached behind an edge to another part, and just as many within the part.
            rows[node] = (len(reached[node]), *rests[node])
    return rows, []


def sieve_part(part, inner):
    """Return what follows the first rank in the rows of a part, and a ring as `sieve` does."""
    if len(inner) == 0:
        return {node: () for node in part}, []
    spent = spent_counters(inner)
    if len(spent) == 0:
        return {}, inner
    rows, ring = sieve(part, [edge for edge in inner if spent[0] not in edge[2]])
    return {node: (spent[0], *rows[node]) for node in rows}, ring


def spent_counters(edges):
    """Return the counters that some edge takes from and none adds to."""
    added = counters_at(edges, 3)
    return [counter for counter in counters_at(edges, 2) if counter not in added]


def counters_at(edges, place):
    """Return the counters that stand at a place of the edges, each once."""
    return list({counter: True for edge in edges for counter in edge[place]})


def way_round(ring):
    """Return a path of edges of a ring from the first one on, back to where it begins.

    It comes to an edge that adds to a counter for each counter for which there is one.
    """
    due = [ring[0]]
    for counter in counters_at(ring, 3):
        due.append([edge for edge in ring if counter in edge[3]][0])
    at = ring[0][0]
    path = []
    for edge in due:
        path = [*path, *paths_from([at], ring)[edge[0]], edge]
        at = edge[1]
    return [*path, *paths_from([at], ring)[ring[0][0]]]
