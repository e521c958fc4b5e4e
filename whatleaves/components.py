"""Takes a graph apart into components: in each of them every node leads to every other one."""


def components_of(parts):
    """The components, as lists of nodes, each behind those to which it leads; parts[k] has the nodes behind node k."""
    found = []
    # When each node was met, from 1 on, and when the first one was met to which it is known to lead back.
    met = [0 for _ in parts]
    lowest = [0 for _ in parts]
    # How many of its parts were looked at.
    passed = [0 for _ in parts]
    # The nodes that are in no component yet, in the order in which they were met.
    waiting = []
    is_waiting = [False for _ in parts]
    many = 0
    for start in range(len(parts)):
        path = [start] if met[start] == 0 else []
        while len(path) > 0:
            node = path[-1]
            if met[node] == 0:
                many = many + 1
                met[node], lowest[node], is_waiting[node] = many, many, True
                waiting.append(node)
            k, low, inner = passed[node], lowest[node], parts[node]
            while k < len(inner) and met[inner[k]] > 0:
                if is_waiting[inner[k]] and lowest[inner[k]] < low:
                    low = lowest[inner[k]]
                k = k + 1
            passed[node], lowest[node] = k, low
            if k < len(inner):
                path.append(inner[k])
            else:
                path.pop()
                if low == met[node]:
                    found.append(_taken_off(waiting, is_waiting, node))
    return found


def _taken_off(waiting, is_waiting, node):
    """The nodes that wait from this one on."""
    component = []
    while is_waiting[node]:
        component.append(waiting.pop())
        is_waiting[component[-1]] = False
    return component
