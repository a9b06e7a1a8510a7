"""CLIMBS: how what is paid again grows without end, along slots that lead to a look. What is told in [17].

A MOVE is a step that a RING may take: the tuple (node, deed, other, pace).
A node is a pair (STATE, slot); deed is the tuple (row, elders, place), elders
being STATES and place that of the node's; pace is 1 if what is paid again
grows by it, 0 if it does not, None if the WAIT there is shared.
"""

from paidbyheirs.crafts import rows_coming
from paidbyheirs.states import asked_in, dear_at, dear_made, dear_states, state_choices


def pace_of(told, anew, elders, pair):
    """The pace of the MOVE to a slot told so, which keeps or wants this pair of elders of such STATES."""
    if told[0] == "kept":
        return 0
    if not anew:
        return None
    return int(told[1] > 0 or dear_at(elders, [own for own in told[2] if own != pair]))


def moves_by(craft, some, number, elders):
    """The list of the MOVES by a deed of this ROW with elders of these STATES."""
    made = dear_made(craft, some, number, elders)
    moves = []
    for slot, told in enumerate(craft[1][number][4]):
        for place, asked in asked_in(told):
            pace = pace_of(told, (number, slot) in some, elders, (place, asked))
            moves.append(((elders[place], asked), (number, elders, place), (made, slot), pace))
    return moves


def all_moves(craft, some, states):
    """The list of the MOVES between nodes of these STATES, the first of each lot of one pace between the same two."""
    told = {}
    for number in rows_coming(craft):
        for elders in state_choices(craft[1][number][0], states):
            for move in moves_by(craft, some, number, elders):
                told.setdefault((move[0], move[2], move[3]), move)
    return list(told.values())


def ways_from(moves, start):
    """The dict with, for each node to which MOVES lead from start, nearer ones first, the list of these MOVES."""
    ways = {start: []}
    at = 0
    while at < len(ways):
        node = list(ways)[at]
        for move in moves:
            if move[0] == node:
                ways.setdefault(move[2], [*ways[node], move])
        at += 1
    return ways


def all_looks(craft):
    """The dict with, for each pair (shape, slot) that is looked at, a pair (row, place) by which it is."""
    looks = {}
    for number in rows_coming(craft):
        elders, asked, _, _, _ = craft[1][number]
        for place, slot in asked:
            looks.setdefault((elders[place], slot), (number, place))
    return looks


def look_from(moves, looks, node):
    """The pair of a list of MOVES from this node to one that is looked at, and of how it is; None if there is none."""
    ways = ways_from(moves, node)
    for (state, slot), way in ways.items():
        if (state[0], slot) in looks:
            return way, looks[(state[0], slot)]
    return None


class Climber:
    """A WEB that grows by VERSIONS of told STATES."""

    def __init__(self, craft, found):
        """An empty one; found tells by which ROW and elders each STATE comes."""
        self.craft = craft
        self.found = found
        self.deeds = []
        self.versions = {}

    def do(self, number, elders):
        """The number of the VERSION that a deed of this ROW makes of these VERSIONS."""
        self.deeds.append((number, tuple(elders)))
        return len(self.deeds) - 1

    def version_with(self, state):
        """A VERSION with this STATE, made if there is none."""
        if state not in self.versions:
            number, elders = self.found[state]
            self.versions[state] = self.do(number, [self.version_with(elder) for elder in elders])
        return self.versions[state]

    def go(self, version, move):
        """The VERSION to which this MOVE leads from that one."""
        number, states, place = move[1]
        return self.do(number, [version if at == place else self.version_with(own) for at, own in enumerate(states)])

    def look(self, version, look):
        """Do a deed that looks at a slot of this VERSION, by the pair (row, place)."""
        number, place = look
        shapes = self.craft[1][number][0]
        elders = [self.version_with(self.state_of(shape)) for shape in shapes]
        self.do(number, [version if at == place else elder for at, elder in enumerate(elders)])

    def state_of(self, shape):
        """The first STATE with this SHAPE."""
        return [state for state in self.found if state[0] == shape][0]


def ring_by(craft, found, loop, way, look):
    """The RING that goes round by the MOVES of loop, then by those of way to this look."""
    climber = Climber(craft, found)
    state, slot = loop[0][0]
    version = climber.version_with(state)
    steps = [(version, slot)]
    for move in [*loop, *way]:
        version = climber.go(version, move)
        steps.append((version, move[2][1]))
    climber.look(version, look)
    return (tuple(climber.deeds), tuple(steps), len(loop))


def ring_found(craft, some):
    """A RING of this CRAFT and SOME; None if there is none.

    What grows at each turn of a loop has no bound if a look can ask for it.
    """
    found = dear_states(craft, some)
    moves = all_moves(craft, some, list(found))
    level = [move for move in moves if move[3] is not None]
    grows = [move for move in level if move[3] == 1]
    ways = {node: ways_from(level, node) for _, _, node, _ in grows}
    looks = all_looks(craft)
    for move in grows:
        node, _, other, _ = move
        told = look_from(moves, looks, node) if node in ways[other] else None
        if told is not None:
            way, look = told
            return ring_by(craft, found, [move, *ways[other][node]], way, look)
    return None
