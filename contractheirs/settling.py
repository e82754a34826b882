"""Integers that let edges hold, or a ring of edges that rules them out.

An edge (left, right, number, pick) says: the height of node left is at most that of node right plus
number; pick tells which literal says so. Edges are kept in a list of lists, by their right node.
"""

# A node with more edges into it waits until no other one does: it costs much to look at it often.
HUB = 100


class Settler:
    """Lowers heights until all edges hold (Bellman, Ford and Moore, with Tarjan's way to find rings).

    Each node that was lowered hangs below the node that it was lowered for. The forest is kept as one
    closed chain in preorder, with the depth of each node (-1 for a node that hangs nowhere at present); one more
    node, of depth 0, is above all. When a node is lowered, all that hangs below it is out of date: it is
    cut off and need not be looked at until it is lowered itself. If the node for which it is lowered is
    among these, there is a ring.
    """

    def __init__(self, into, heights):
        many = len(into)
        self.into = into
        self.heights = list(heights)
        self.edges = [None] * many
        self.depths = [1] * many + [0]
        self.after = list(range(1, many + 1)) + [0]
        self.before = [many] + list(range(many))
        self.waits = [False] * many
        self.later = []
        self.hubs = []

    def settle(self, nodes):
        """Returns None once all edges hold, else the picks of a ring whose sum is below 0.

        Edges whose right node is not among the nodes have to hold already.
        """
        for node in nodes:
            self._wait(node)
        while self.later or self.hubs:
            row = list(self.later or self.hubs)
            if self.later:
                self.later = []
            else:
                self.hubs = []
            for node in row:
                ring = self._scan(node) if self.waits[node] else None
                if ring is not None:
                    return ring
        return None

    def _wait(self, node):
        """Lets a node wait for its turn."""
        if not self.waits[node]:
            self.waits[node] = True
            row = self.hubs if len(self.into[node]) > HUB else self.later
            row.append(node)

    def _scan(self, node):
        """Lowers the left nodes of the edges into a node, and returns a ring if it meets one."""
        self.waits[node] = False
        height = self.heights[node]
        for edge in self.into[node]:
            left = edge[0]
            if height + edge[2] < self.heights[left]:
                if left == node or not self._cut(left, node):
                    return self._ring(edge)
                self.heights[left] = height + edge[2]
                self.edges[left] = edge
                self._hang(left, node)
                self._wait(left)
        return None

    def _cut(self, node, other):
        """Takes a node and all that hangs below it out of the chain; returns False if other hangs there."""
        depth = self.depths[node]
        if depth < 0:
            return True
        at = self.after[node]
        while self.depths[at] > depth:
            if at == other:
                return False
            self.depths[at] = -1
            self.waits[at] = False
            at = self.after[at]
        ahead = self.before[node]
        self.after[ahead] = at
        self.before[at] = ahead
        return True

    def _hang(self, node, above):
        """Puts a node that hangs nowhere right below another one."""
        behind = self.after[above]
        self.after[above] = node
        self.before[node] = above
        self.after[node] = behind
        self.before[behind] = node
        self.depths[node] = self.depths[above] + 1

    def _ring(self, edge):
        """The picks of the ring that an edge closes, in their order."""
        start, at, _, pick = edge
        picks = [pick]
        while at != start:
            _, right, _, pick = self.edges[at]
            picks.append(pick)
            at = right
        return picks
