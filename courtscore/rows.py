"""Rows of points that end a match: how many there are, and the number of each."""

from courtscore.errors import NoSuch, Over
from courtscore.standings import after, begin, played, winner


def many_rows(rules, many):
    return ways_to_end(rules, many)[-1][begin()]


def row_at(rules, many, number):
    ways = ways_to_end(rules, many)
    if number < 0 or number >= ways[-1][begin()]:
        raise NoSuch("no row of so many points has this number")
    standing = begin()
    row = []
    for left in range(many - 1, -1, -1):
        ahead = ways[left][behind(rules, standing, 0)]
        who = 0
        if number >= ahead:
            number -= ahead
            who = 1
        row.append(who)
        standing = behind(rules, standing, who)
    return row


def number_of(rules, row):
    refuse_no_end(rules, row)
    ways = ways_to_end(rules, len(row))
    standing = begin()
    number = 0
    for place, who in enumerate(row):
        if who == 1:
            number += ways[len(row) - place - 1][behind(rules, standing, 0)]
        standing = behind(rules, standing, who)
    return number


def refuse_no_end(rules, row):
    try:
        standing = played(rules, row)
    except Over:
        raise NoSuch("points come behind the end of the match") from None
    if winner(rules, standing) is None:
        raise NoSuch("the row ends no match")


def ways_to_end(rules, many):
    # A place for each number of points left, so that a row is walked without counting anew at each of its points.
    steps = steps_from_begin(rules, many)
    ways = [dict([(standing, 0 if winner(rules, standing) is None else 1) for standing in steps])]
    for left in range(many):
        shorter = ways[left]
        ways.append(dict([(standing, sum([shorter[later] for later in steps[standing]])) for standing in steps]))
    return ways


def steps_from_begin(rules, many):
    steps = {}
    newest = [begin()]
    for gone in range(many):
        found = {}
        for standing in newest:
            steps[standing] = standings_behind(rules, standing)
            for later in steps[standing]:
                found[later] = True
        newest = [standing for standing in found if standing not in steps]
    # Those found last have no point left, so what stands behind them is never asked for.
    for standing in newest:
        steps[standing] = []
    return steps


def standings_behind(rules, standing):
    if winner(rules, standing) is not None:
        return []
    return [behind(rules, standing, 0), behind(rules, standing, 1)]


def behind(rules, standing, who):
    # Standings that are played on alike are made one: far fewer are left to count.
    later = after(rules, standing, who)
    return (later[0], lowered(later[1], rules.games()), lowered(later[2], rules.points()))


def lowered(pair, goal):
    # Where both lack at most one step, only the lead counts.
    beyond = max(min(pair) - goal + 1, 0)
    return (pair[0] - beyond, pair[1] - beyond)
