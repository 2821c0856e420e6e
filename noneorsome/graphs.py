"""Graphs: nodes, and edges between them.

An edge is a tuple `(node, behind, taken, added, way)`: it leads from a node to the one behind it, takes from some
counters and adds to others. `way` tells how it is done, and has no meaning here.
"""


def edges_along(node, action, ways):
    """Return the edges from a node by the ways `(index, gone, behind, taken, added)` of an action, one of each kind."""
    edges = {}
    for index, gone, behind, taken, added in ways:
        edges[(behind, taken, added)] = (node, behind, taken, added, (action, index, gone))
    return list(edges.values())


def graph_from(starts, edges_from):
    """Return the nodes to which one comes from some nodes, and all edges from them, as a function tells them."""
    nodes = {node: True for node in starts}
    edges = []
    fresh = list(nodes)
    while len(fresh) > 0:
        node = fresh.pop()
        for edge in edges_from(node):
            edges.append(edge)
            if edge[1] not in nodes:
                nodes[edge[1]] = True
                fresh.append(edge[1])
    return list(nodes), edges


def follow_edges(nodes, edges):
    """Return a dict with the nodes behind each node."""
    behind = {node: {} for node in nodes}
    for edge in edges:
        behind[edge[0]][edge[1]] = True
    return behind


def reached_from(node, behind):
    """Return a dict with the nodes to which one comes from a node, itself among them."""
    reached = {node: True}
    fresh = [node]
    while len(fresh) > 0:
        here = fresh.pop()
        for other in behind[here]:
            if other not in reached:
                reached[other] = True
                fresh.append(other)
    return reached


def paths_from(nodes, edges):
    """Return a shortest path, as a list of edges, from one of some nodes to each node that is reached."""
    paths = {node: [] for node in nodes}
    layer = list(paths)
    while len(layer) > 0:
        fresh = []
        for edge in edges:
            if edge[0] in layer and edge[1] not in paths:
                paths[edge[1]] = [*paths[edge[0]], edge]
                fresh.append(edge[1])
        layer = fresh
    return paths


def parts_of(nodes, edges, reached):
    """Return the parts in which all nodes reach each other, as pairs of nodes and the edges between them."""
    home = {}
    for node in nodes:
        if node not in home:
            for other in reached[node]:
                if node in reached[other]:
                    home[other] = node
    parts = {node: ([], []) for node in nodes if home[node] == node}
    for node in nodes:
        parts[home[node]][0].append(node)
    for edge in edges:
        if home[edge[0]] == home[edge[1]]:
            parts[home[edge[0]]][1].append(edge)
    return list(parts.values())
