"""Shortest ways through a graph whose nodes tell their steps."""


def leads_from(firsts, onward):
    """How each node is reached with the fewest steps from one of the first nodes.

    onward(node) is a list of tuples (step, node). In the dict that is returned a first node has
    None, each other one a tuple (node ahead, step), and nodes with fewer steps stand ahead.
    """
    leads = {node: None for node in firsts}
    queue = list(leads)
    at = 0
    while at < len(queue):
        ahead = queue[at]
        lines = onward(ahead)
        for step, node in lines:
            if node not in leads:
                leads[node] = (ahead, step)
                queue.append(node)
        at = at + 1
    return leads


def way_to(leads, node):
    """The first node from which a node is reached, and the list of the steps to it."""
    steps = []
    while leads[node] is not None:
        node, step = leads[node]
        steps.append(step)
    return node, steps[::-1]
