"""Networks: the most that can pass from sources to sinks, along lines, through nodes with limits."""

from windowcuts.errors import NoLimit
from windowcuts.leads import leads_from


def greatest_flow(nodes, lines, sources, sinks):
    """The greatest amount, the ways that bear it, and nodes with as low limits that cut all ways."""
    _check_limit(nodes, lines, sources, sinks)
    names = sorted(nodes)
    # Each node is an arc from its even port to its odd one; two more ports lead to the sources and from the sinks.
    ports = {name: 2 * at for at, name in enumerate(names)}
    begin, end = 2 * len(names), 2 * len(names) + 1
    net = Net(2 * len(names) + 2)
    for name in names:
        net.link(ports[name], ports[name] + 1, nodes[name])
    for one, other in sorted(set(lines)):
        net.link(ports[one] + 1, ports[other], None)
    for name in sorted(set(sources)):
        net.link(begin, ports[name], None)
    for name in sorted(set(sinks)):
        net.link(ports[name] + 1, end, None)
    levels = net.filled(begin, end)
    cut = [name for name in names if ports[name] in levels and ports[name] + 1 not in levels]
    ways = [(amount, [names[port // 2] for port in way if port % 2 == 0]) for amount, way in net.taken(begin, end)]
    return sum([amount for amount, _ in ways]), ways, cut


def _check_limit(nodes, lines, sources, sinks):
    """Raise NoLimit if nodes without a limit alone lead from a source to a sink."""
    free = {name: [] for name in nodes if nodes[name] is None}
    for one, other in lines:
        if one in free and other in free:
            free[one].append((None, other))
    leads = leads_from([name for name in sources if name in free], lambda name: free[name])
    if any([name in leads for name in sinks]):
        raise NoLimit()


class Net:
    """Arcs between ports, and how much more each may bear, or None for no limit.

    Arcs come in twos: the odd one leads back along the even one ahead of it, and may bear what is borne there.
    """

    def __init__(self, many):
        self._heads = []
        self._rests = []
        self._arcs = [[] for port in range(many)]

    def link(self, tail, head, limit):
        """Lead an arc from a port to another one."""
        self._arcs[tail].append(len(self._heads))
        self._heads.append(head)
        self._rests.append(limit)
        self._arcs[head].append(len(self._heads))
        self._heads.append(tail)
        self._rests.append(0)

    def filled(self, begin, end):
        """Bear as much as can be from a port to another one, and return the levels of the ports that are left.

        At least one arc of each way from the one to the other must have a limit.
        """
        levels = self._levels(begin)
        while end in levels:
            self._fill_levels(levels, begin, end)
            levels = self._levels(begin)
        return levels

    def taken(self, begin, end):
        """Ways of ports, with amounts, that bear together what is borne; nothing is borne then."""
        found = []
        while self._borne(begin) is not None:
            found.append(self._way(begin, end))
        return found

    def _levels(self, begin):
        """For each port to which arcs lead that may bear more, the least number of these."""
        levels = {begin: 0}
        queue = [begin]
        at = 0
        while at < len(queue):
            port = queue[at]
            for arc in self._arcs[port]:
                head = self._heads[arc]
                if self._rests[arc] != 0 and head not in levels:
                    levels[head] = levels[port] + 1
                    queue.append(head)
            at = at + 1
        return levels

    def _fill_levels(self, levels, begin, end):
        """Bear more on ways on which each arc leads to the next level, until there is none."""
        # The arcs ahead of this index lead on no such way any more.
        tried = {port: 0 for port in levels}
        trail = []
        port = begin
        while True:
            arc = None if port == end else self._arc_on(port, levels, tried)
            if port == end:
                trail = self._borne_more(trail)
            elif arc is not None:
                trail.append(arc)
            elif len(trail) > 0:
                back = self._heads[trail.pop() ^ 1]
                tried[back] = tried[back] + 1
            else:
                return
            port = self._heads[trail[-1]] if len(trail) > 0 else begin

    def _arc_on(self, port, levels, tried):
        arcs = self._arcs[port]
        while tried[port] < len(arcs):
            arc = arcs[tried[port]]
            if self._rests[arc] != 0 and levels.get(self._heads[arc], 0) == levels[port] + 1:
                return arc
            tried[port] = tried[port] + 1
        return None

    def _borne_more(self, trail):
        """Bear as much as can be on a trail, and return the trail ahead of the first arc that is full."""
        amount = min([self._rests[arc] for arc in trail if self._rests[arc] is not None])
        for arc in trail:
            self._bear(arc, amount)
        return trail[:[self._rests[arc] for arc in trail].index(0)]

    def _bear(self, arc, amount):
        back = arc ^ 1
        if self._rests[arc] is not None:
            self._rests[arc] = self._rests[arc] - amount
        if self._rests[back] is not None:
            self._rests[back] = self._rests[back] + amount

    def _borne(self, port):
        """The first arc from a port that bears something, or None."""
        for arc in self._arcs[port]:
            if arc % 2 == 0 and self._rests[arc ^ 1] > 0:
                return arc
        return None

    def _way(self, begin, end):
        """Take one way off what is borne; also what is borne round in rings that it comes to."""
        trail = []
        passed = {begin: 0}
        port = begin
        while port != end:
            arc = self._borne(port)
            trail.append(arc)
            port = self._heads[arc]
            if port in passed:
                self._take(trail[passed[port]:])
                trail = trail[:passed[port]]
                passed = {one: passed[one] for one in passed if passed[one] <= len(trail)}
            else:
                passed[port] = len(trail)
        return self._take(trail), [self._heads[arc] for arc in trail[:-1]]

    def _take(self, trail):
        """Take as much as all these arcs bear off them, and return the amount."""
        amount = min([self._rests[arc ^ 1] for arc in trail])
        for arc in trail:
            self._bear(arc ^ 1, amount)
        return amount
