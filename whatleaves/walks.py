"""Finds fronts that have others of the same case in them, and writes records of them."""

from whatleaves.grammar import parts_in
from whatleaves.marks import MarkedRoutes, with_mark
from whatleaves.records import Record
from whatleaves.routes import choices_of, indexes_of, key_of, needed_rows, told_case
from whatleaves.strands import strand_case


def growing_walk(threads, sizes, start):
    """(walk, k): fronts from that of a node on, each with the next one in it; the last one is front k again, shorter.

    A front is told by its case and the finish in which the error leaves.
    """
    growing = [node for node in threads.owners if sizes.grows(node)]
    ends = [(node, has_grown) for node in growing for has_grown in (False, True)]
    ahead = _path(threads.grammar, start, ends)
    around = _path(threads.grammar, ahead[-1], [(ahead[-1], True)])
    known = threads.owners
    fronts = [known[node] for node in ahead if node in known]
    return fronts + [known[node] for node in around[1:] if node in known], len(fronts) - 1


def _path(grammar, start, ends):
    """The nodes on a shortest path from a node to one of these ends.

    An end is (node, whether the path must go through a pair): whatever goes through a pair is longer than its part.
    """
    wanted = {end: True for end in ends}
    before = {(start, False): None}
    waiting = [(start, False)]
    k = 0
    while waiting[k] not in wanted:
        behind = _behind(grammar, waiting[k])
        for state in behind:
            if state not in before:
                before[state] = waiting[k]
                waiting.append(state)
        k = k + 1
    path = []
    state = waiting[k]
    while state is not None:
        path.append(state[0])
        state = before[state]
    return path[::-1]


def _behind(grammar, state):
    node, has_grown = state
    states = []
    for form in grammar.forms[node]:
        states.extend([(part, has_grown or isinstance(form, tuple)) for part in parts_in(form)])
    return states


def written_along(solver, walk, again):
    """(record, inner, outer) for a walk whose last front is front k again, of the rows inner and outer."""
    roots = [solver.root(strand_case(case)) for case, _ in walk]
    ways = [_way(solver, roots, walk, i) for i in range(len(walk) - 1)]
    last = ("row", roots[-1], with_mark(walk[-1][1], 0))
    steps = [step for way in ways for step in way if step[0] == "row" and not _is_marked(step)]
    needed = needed_rows(solver, 0, steps + [last])
    indexes = indexes_of(needed)
    rows = [row.told_with(indexes, solver.level) for row in needed]
    inner = indexes[key_of(last)]
    latest = inner
    # Each front has the next one of the walk in it, so that the rows stand the other way round.
    for k in range(len(ways) - 1, -1, -1):
        steps = [("take", (latest,)) if _is_marked(step) else step for step in ways[k]]
        latest = len(rows)
        rows.append((told_case(roots[k], solver.level), choices_of(steps, indexes)))
    return Record.made(rows), inner, len(rows) - 1 - again


def _way(solver, roots, walk, i):
    """A way to front i of a walk, with the next front in it."""
    routes = MarkedRoutes(solver, roots[i + 1], walk[i + 1][1])
    return routes.way_to(roots[i], walk[i][1])


def _is_marked(step):
    return step[0] == "row" and step[2][0] == "leaves" and step[2][1][3] > 0
