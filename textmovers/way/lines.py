"""Graphs of lines: for each point a dict from other points to what the line to them costs.

The costs of ways are integers of any size. What a line costs is never 0.
"""

from heapq import heappop, heappush


def least_costs(lines, first):
    """For each point that is reached from the first one what the least way to it costs."""
    costs = {first: 0}
    done = {}
    queue = [(0, first)]
    while queue:
        cost, point = heappop(queue)
        if point in done:
            continue
        done[point] = True
        for other, line in lines[point].items():
            more = cost + line
            if other not in costs or more < costs[other]:
                costs[other] = more
                heappush(queue, (more, other))
    return costs


def least_way(lines, first, last):
    """The points of a least way from the first one to the last one, which is reached."""
    costs = least_costs(lines, last)
    way = [first]
    while way[-1] != last:
        ahead = lines[way[-1]]
        left = costs[way[-1]]
        way.append([other for other in ahead if costs[other] + ahead[other] == left][0])
    return way


def joined_lines(lines, steps, many):
    """The lines between points put so many times side by side, and one for each step from one of these to another."""
    joined = []
    for ahead in lines:
        for side in range(many):
            joined.append({other * many + side: ahead[other] for other in ahead})
    for one, other in steps:
        if one != other:
            joined[one][other] = 1
            joined[other][one] = 1
    return joined


def lines_between(lines, points):
    """Lines between these points alone, by their places, with the same costs of least ways between them."""
    left = [dict(ahead) for ahead in lines]
    places = {point: place for place, point in enumerate(points)}
    queue = []
    for point, ahead in enumerate(left):
        if point not in places:
            heappush(queue, (len(ahead), point))
    # Points with few lines go first, so that few lines come in their place.
    while queue:
        many, point = heappop(queue)
        if many < len(left[point]):
            heappush(queue, (len(left[point]), point))
        else:
            pass_by(left, point)
    needed = needed_lines(left)
    return [{places[other]: needed[point][other] for other in needed[point]} for point in points]


def pass_by(lines, point):
    """Takes a point out of the lines; ways through it are lines from then on."""
    others = list(lines[point].items())
    lines[point] = {}
    for one, cost in others:
        row = lines[one]
        del row[point]
        for other, more in others:
            if other not in row or cost + more < row[other]:
                row[other] = cost + more
        # What led there and back is no line.
        del row[one]


def needed_lines(lines):
    """The lines without those that two others, one behind the other, are as good as."""
    needed = []
    for ahead in lines:
        passed = {}
        for point, cost in ahead.items():
            for other, more in lines[point].items():
                if other in ahead and cost + more <= ahead[other]:
                    passed[other] = True
        needed.append({other: ahead[other] for other in ahead if other not in passed})
    return needed
