"""Clauses as a graph: its nodes are terms, its edges the literals that stand alone in their clause."""

from contractheirs.roads import Roads
from contractheirs.search import Literal, Search
from contractheirs.settling import Settler


class Problem:
    """Some clauses for which integers are sought, or a closed tree."""

    def __init__(self, clauses):
        self.clauses = clauses
        self.nodes = {}
        self.choices = []
        shortest = {}
        for index, clause in enumerate(clauses):
            for left, right, _ in clause:
                self.nodes.setdefault(left, len(self.nodes))
                self.nodes.setdefault(right, len(self.nodes))
            if len(clause) == 1:
                edge = self._edge(index, 0)
                if edge[:2] not in shortest or edge[2] < shortest[edge[:2]][2]:
                    shortest[edge[:2]] = edge
            else:
                self.choices.append(index)
        self.into = [[] for _ in self.nodes]
        for edge in list(shortest.values()):
            self._put(self.into, edge)

    def _edge(self, index, j):
        """The edge (left node, right node, number, pick) of a literal."""
        left, right, number = self.clauses[index][j]
        return (self.nodes[left], self.nodes[right], number, (index, j))

    def _put(self, into, edge):
        """Puts an edge to the others of its right node; one that always holds is left out."""
        if edge[0] != edge[1] or edge[2] < 0:
            into[edge[1]].append(edge)

    def answer(self):
        """What decide returns."""
        settler = Settler(self.into, [0] * len(self.into))
        ring = settler.settle(list(range(len(self.into))))
        if ring is not None:
            return ("closed", ("cycle", tuple(ring)))
        return self._choose(settler.heights)

    def _choose(self, settled):
        """Goes on behind the clauses of one literal; only clauses that some heights break are looked at."""
        roads = Roads(self.into, settled, self._sources())
        looked = []
        heights = settled
        while True:
            wrong = [index for index in self.choices if not self._holds(index, heights)]
            if not wrong:
                return ("values", self._named(heights))
            looked.extend(wrong)
            search = Search(self._literals(looked), len(looked), roads)
            picked = search.run()
            if picked is None:
                return ("closed", search.built(looked))
            heights = self._with(settled, picked)

    def _sources(self):
        """The right nodes of the literals among which can be chosen."""
        found = {}
        for index in self.choices:
            for _, right, _ in self.clauses[index]:
                found[self.nodes[right]] = True
        return found

    def _holds(self, index, heights):
        clause = self.clauses[index]
        return any([heights[self.nodes[left]] <= heights[self.nodes[right]] + n for left, right, n in clause])

    def _literals(self, looked):
        """The literals of some clauses, for the search."""
        found = []
        for group, index in enumerate(looked):
            for j in range(len(self.clauses[index])):
                left, right, number, pick = self._edge(index, j)
                found.append(Literal(group, pick, left, right, number))
        return found

    def _with(self, settled, picked):
        """Heights for which picked literals hold, too."""
        into = list(self.into)
        for literal in picked:
            into[literal.right] = list(into[literal.right])
        for literal in picked:
            self._put(into, (literal.left, literal.right, literal.number, literal.pick))
        settler = Settler(into, settled)
        settler.settle([literal.right for literal in picked])
        return settler.heights

    def _named(self, heights):
        """Heights as values of terms, seen from that of "", which is 0."""
        low = heights[self.nodes[""]] if "" in self.nodes else 0
        return {term: heights[node] - low for term, node in self.nodes.items() if term != ""}
