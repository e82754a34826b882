"""Shortest ways over the edges that always hold."""

from heapq import heappop, heappush


class Roads:
    """The shortest ways to some nodes from the nodes that are wanted; edges are as in settling.py.

    Heights for which all edges hold make all lengths that are compared here 0 or more (Johnson's and
    Dijkstra's way).
    """

    def __init__(self, into, heights, wanted):
        self.into = into
        self.heights = heights
        self.wanted = wanted
        self.lengths = {}
        self.edges = {}
        self.known = {}

    def rise(self, left, right):
        """How much higher the right node stands than the left one."""
        return self.heights[right] - self.heights[left]

    def lengths_to(self, target):
        """The length of the shortest way from each wanted node from which there is one, as a dict."""
        if target not in self.lengths:
            self._search(target)
        return self.lengths[target]

    def _search(self, target):
        heights = self.heights
        best = [None] * len(self.into)
        edges = [None] * len(self.into)
        best[target] = 0
        queue = [(0, target)]
        lengths = {}
        while queue and len(lengths) < len(self.wanted):
            far, node = heappop(queue)
            if far == best[node]:
                if node in self.wanted:
                    lengths[node] = far + heights[node] - heights[target]
                far += heights[node]
                for edge in self.into[node]:
                    left = edge[0]
                    there = far + edge[2] - heights[left]
                    if best[left] is None or there < best[left]:
                        best[left] = there
                        edges[left] = edge
                        heappush(queue, (there, left))
        self.lengths[target] = lengths
        self.edges[target] = edges

    def picks(self, source, target):
        """The picks of the shortest way from a wanted node, in their order, as a tuple."""
        if (source, target) not in self.known:
            edges = self.edges[target]
            found = []
            at = source
            while at != target:
                _, right, _, pick = edges[at]
                found.append(pick)
                at = right
            self.known[(source, target)] = tuple(found)
        return self.known[(source, target)]
