"""Nets: nodes and the moves between them, and the machines that are drawn from them."""

from normalwords.machines import Machine


def drawn(start, moves):
    """All nodes met from start on, in the order in which they are first met, and their net:
    for each node the list of pairs of a letter and the number of a node; moves(node) tells
    the pairs of a letter and a node."""
    numbers = {start: 0}
    nodes = [start]
    net = []
    while len(net) < len(nodes):
        here = nodes[len(net)]
        told = []
        for letter, node in moves(here):
            if node not in numbers:
                numbers[node] = len(nodes)
                nodes.append(node)
            told.append((letter, numbers[node]))
        net.append(told)
    return nodes, net


def drawn_machine(letters, start, moves, is_end):
    """The machine whose states are the nodes met from start on; no node has two moves of
    one letter."""
    nodes, net = drawn(start, moves)
    return Machine(letters, table_of(letters, net), [1 if is_end(node) else 0 for node in nodes])


def table_of(letters, net):
    """The table of a machine whose states are the nodes of a net; no node has two moves of one
    letter."""
    table = []
    for told in net:
        row = [None] * letters
        for letter, state in told:
            row[letter] = state
        table.append(tuple(row))
    return table


def determined(letters, net, goals):
    """A machine that takes a word exactly if some way over its letters, and then over any
    number of moves of the letter behind the last one, leads from node 0 to one of goals."""
    useful = reaching([[target for _, target in told] for told in net], goals)
    ending = reaching(_moves_of(net, letters), goals)

    def moves(nodes):
        met = {}
        for node in nodes:
            for letter, aim in net[node]:
                # What leads to no goal would only make more sets of nodes.
                if letter < letters and useful[aim]:
                    met.setdefault(letter, {})[aim] = True
        return [(x, tuple(sorted(met[x]))) for x in sorted(met)]

    def is_end(nodes):
        return any([ending[n] for n in nodes])

    return drawn_machine(letters, (0,), moves, is_end)


def way_to(start, moves, goal):
    """The letters of a way of as few moves as can be from start to goal, or None."""
    ways = {start: ()}
    waiting = [start]
    at = 0
    while at < len(waiting) and goal not in ways:
        here = waiting[at]
        for letter, node in moves(here):
            if node not in ways:
                ways[node] = ways[here] + (letter,)
                waiting.append(node)
        at += 1
    return ways.get(goal)


def reached(follows, starts):
    """For each node whether some way, also one of no move, leads to it from one of starts;
    follows[n] lists the nodes to which a move leads from node n."""
    met = [False] * len(follows)
    waiting = list(starts)
    while len(waiting) > 0:
        node = waiting.pop()
        if not met[node]:
            met[node] = True
            waiting.extend(follows[node])
    return met


def reaching(follows, goals):
    """For each node whether some way, also one of no move, leads from it to one of goals."""
    back = [[] for _ in follows]
    for node, targets in enumerate(follows):
        for target in targets:
            back[target].append(node)
    return reached(back, goals)


def _moves_of(net, letter):
    """For each node the nodes to which the letter leads from it."""
    return [[target for x, target in told if x == letter] for told in net]
