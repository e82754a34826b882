"""Picks one literal from each of some clauses, or makes a closed tree.

The state of the search tells, for each two literals a and b of clauses from which none is picked yet, the
length of the shortest way from the right node of a to the left node of b, and over which picked
literals it goes. So b is ruled out as soon as the way from its right node to its own left node, together
with its number, is below 0.
"""

FIRST_LIMIT = 200
WEIGHT = 1000000


class Literal:
    """A literal, with the number of its group (a clause), its pick (i, j) and its two nodes."""

    def __init__(self, group, pick, left, right, number):
        self.group = group
        self.pick = pick
        self.left = left
        self.right = right
        self.number = number


class State:
    """What is known when some literals are picked.

    rows[a][b] is (length, picked literals on the way), dead[b] the picked literals on the way that rules
    b out, loose the list of the groups from which none is picked yet.
    """

    def __init__(self, rows, dead, loose):
        self.rows = rows
        self.dead = dead
        self.loose = loose


class Closed:
    """A closed tree: a case of a group with its parts, or (group is None) the ring of some literals.

    uses has the bit of each group of which the tree uses a literal that was picked around it.
    """

    def __init__(self, uses, group, parts, ring):
        self.uses = uses
        self.group = group
        self.parts = parts
        self.ring = ring
        self.tree = None


class Fork:
    """A case that is being worked out."""

    def __init__(self, state, group, untried):
        self.state = state
        self.group = group
        self.untried = untried
        self.literal = None
        self.parts = {}
        self.uses = 0
        self.shortcut = None

    def take(self, part):
        """Takes a closed tree for the literal that is tried."""
        if part.uses >> self.group & 1:
            self.parts[self.literal] = part
            self.uses |= part.uses
        else:
            # This tree does not ask what is picked here, so it does for the whole case.
            self.shortcut = part


class Search:
    """The search over so many groups of literals; roads are the ways over the edges that always hold."""

    def __init__(self, literals, many, roads):
        self.literals = literals
        self.roads = roads
        self.groups = [[] for _ in range(many)]
        for at, literal in enumerate(literals):
            self.groups[literal.group].append(at)
        self.heat = [1] * many
        self.rings = 0
        self.forks = []
        self.closed = None

    def run(self):
        """Returns the picked literals as a list, or None if there is a closed tree."""
        start = self._start()
        limit = FIRST_LIMIT
        while not self._run(start, limit):
            # From now on the groups that were met in many rings come first.
            limit *= 2
        if self.closed is not None:
            return None
        return [self.literals[fork.literal] for fork in self.forks]

    def _start(self):
        """The state when nothing is picked."""
        rows = {}
        for at, literal in enumerate(self.literals):
            row = {}
            for to, other in enumerate(self.literals):
                lengths = self.roads.lengths_to(other.left)
                if literal.right in lengths:
                    row[to] = (lengths[literal.right], ())
            rows[at] = row
        dead = {}
        self._bury(rows, dead, list(rows))
        return State(rows, dead, list(range(len(self.groups))))

    def _bury(self, rows, dead, numbers):
        """Notes which of some literals are ruled out."""
        for at in numbers:
            if at in rows[at]:
                length, trail = rows[at][at]
                if length + self.literals[at].number < 0:
                    dead[at] = trail

    def _run(self, start, limit):
        """Searches until the end or until so many rings were met, and returns whether it is the end."""
        self.rings = 0
        self.forks = []
        state = start
        while state.loose:
            if self.rings > limit:
                return False
            self.forks.append(self._fork(state))
            if not self._back():
                return True
            fork = self.forks[-1]
            state = self._picked(fork.state, fork.literal)
        return True

    def _fork(self, state):
        """The next case: of a group with few literals that are not ruled out, and met in many rings."""
        best = None
        group = None
        for each in state.loose:
            alive = len([at for at in self.groups[each] if at not in state.dead])
            weight = alive if alive < 2 else 2 + alive * WEIGHT // self.heat[each]
            if best is None or weight < best:
                best = weight
                group = each
        fork = Fork(state, group, self._order(state, group))
        for at in self.groups[group]:
            if at in state.dead:
                fork.literal = at
                fork.take(self._ring((at,) + state.dead[at]))
        return fork

    def _order(self, state, group):
        """The literals of a group that are not ruled out; those that leave most room come last."""
        tight = []
        wide = []
        for at in self.groups[group]:
            literal = self.literals[at]
            if at in state.dead:
                continue
            if at in state.rows[at]:
                tight.append((state.rows[at][at][0] + literal.number, at))
            else:
                wide.append((self.roads.rise(literal.left, literal.right) + literal.number, at))
        return [at for _, at in sorted(tight) + sorted(wide)]

    def _ring(self, ring):
        """The closed tree that is a ring of literals."""
        self.rings += 1
        uses = 0
        for at in ring:
            group = self.literals[at].group
            uses |= 1 << group
            self.heat[group] += 1
        return Closed(uses, None, [], ring)

    def _back(self):
        """Leaves the cases that are closed, and goes to the next literal; returns False if all are closed."""
        while True:
            fork = self.forks[-1]
            if fork.shortcut is None and fork.untried:
                fork.literal = fork.untried.pop()
                return True
            part = fork.shortcut
            if part is None:
                parts = [fork.parts[at] for at in self.groups[fork.group]]
                part = Closed(fork.uses ^ (1 << fork.group), fork.group, parts, ())
            self.forks.pop()
            if not self.forks:
                self.closed = part
                return False
            self.forks[-1].take(part)

    def _picked(self, state, picked):
        """The state when one more literal is picked."""
        literal = self.literals[picked]
        loose = [group for group in state.loose if group != literal.group]
        alive = [at for group in loose for at in self.groups[group] if at not in state.dead]
        row = state.rows[picked]
        tails = [(at, row[at][0] + literal.number, (picked,) + row[at][1]) for at in alive if at in row]
        rows = {}
        changed = []
        for at in alive:
            rows[at] = state.rows[at]
            if picked in rows[at]:
                rows[at] = self._longer(rows[at], rows[at][picked], tails)
                changed.append(at)
        dead = dict(state.dead)
        self._bury(rows, dead, changed)
        return State(rows, dead, loose)

    def _longer(self, row, head, tails):
        """A row with the ways over the literal that was picked just now, where these are shorter."""
        length, trail = head
        fresh = dict(row)
        for at, behind, rest in tails:
            if at not in fresh or length + behind < fresh[at][0]:
                fresh[at] = (length + behind, trail + rest)
        return fresh

    def built(self, indexes):
        """The closed tree that was found, as a tuple; the groups stand for the clauses of these indexes."""
        parts = []
        row = [self.closed]
        while row:
            part = row.pop()
            parts.append(part)
            row.extend(part.parts)
        for part in parts[::-1]:
            if part.group is None:
                part.tree = ("cycle", self._picks(part.ring))
            else:
                part.tree = ("case", indexes[part.group], tuple([below.tree for below in part.parts]))
        return self.closed.tree

    def _picks(self, ring):
        """The picks of a ring, with those of the roads from each literal to the next one."""
        picks = []
        for at, following in zip(ring, ring[1:] + ring[:1]):
            literal = self.literals[at]
            picks.append(literal.pick)
            picks.extend(self.roads.picks(literal.right, self.literals[following].left))
        return tuple(picks)
