"""The rules of a match, and its standings from point to point."""

from courtscore.errors import BadRules, BadStanding, Over

MOST_POINTS = 5
MOST_GAMES = 6
MOST_SETS = 3
LEAD = 2
MATCH_LEAD = 1
NOUGHT = (0, 0)


class Rules:
    def __init__(self, points, games, sets):
        refuse_beyond("points of a game", points, MOST_POINTS)
        refuse_beyond("games of a set", games, MOST_GAMES)
        refuse_beyond("sets of the match", sets, MOST_SETS)
        self.point_goal = points
        self.game_goal = games
        self.set_goal = sets

    def points(self):
        return self.point_goal

    def games(self):
        return self.game_goal

    def sets(self):
        return self.set_goal


def begin():
    return (NOUGHT, NOUGHT, NOUGHT)


def winner(rules, standing):
    refuse_unreached(rules, standing)
    if standing[0][0] == rules.sets():
        return 0
    if standing[0][1] == rules.sets():
        return 1
    return None


def after(rules, standing, who):
    if winner(rules, standing) is not None:
        raise Over("the match is won, and no point comes behind it")
    points = one_more(standing[2], who)
    if not is_won(points, rules.points(), LEAD):
        return (standing[0], standing[1], points)
    games = one_more(standing[1], who)
    if not is_won(games, rules.games(), LEAD):
        return (standing[0], games, NOUGHT)
    return (one_more(standing[0], who), NOUGHT, NOUGHT)


def played(rules, row):
    standing = begin()
    for who in row:
        standing = after(rules, standing, who)
    return standing


def one_more(pair, who):
    if who == 0:
        return (pair[0] + 1, pair[1])
    return (pair[0], pair[1] + 1)


def is_won(pair, goal, lead):
    return max(pair) >= goal and abs(pair[0] - pair[1]) >= lead


def goes_on(pair, goal):
    # A pair that isn't won is always led to: taking turns, the lead stays below two up to any height,
    # and a greater lead stands below the goal, where nothing ahead of it was won either.
    return min(pair) >= 0 and not is_won(pair, goal, LEAD)


def is_reached(rules, standing):
    sets = standing[0]
    if min(sets) < 0 or min(sets) >= rules.sets() or max(sets) > rules.sets():
        return False
    if max(sets) == rules.sets():
        return standing[1] == NOUGHT and standing[2] == NOUGHT
    return goes_on(standing[1], rules.games()) and goes_on(standing[2], rules.points())


def refuse_unreached(rules, standing):
    # The numbers are left out of the words: Python writes no number of some thousand figures.
    if not is_reached(rules, standing):
        raise BadStanding("no row of points leads to this standing")


def refuse_beyond(what, number, most):
    if number < 1 or number > most:
        raise BadRules(f"the {what} are from 1 to {most}")
