"""The chance to win a match, and the points still to come, as fractions in lowest terms."""

from courtscore.parts import common_multiple, fraction, refuse_bad_part
from courtscore.standings import LEAD, MATCH_LEAD, NOUGHT, is_won, one_more, winner

ZERO = (0, 1)
ONE = (1, 1)


def chance(rules, standing, part):
    return worth(rules, standing, part, ZERO, (ONE, ZERO))


def points_to_come(rules, standing, part):
    return worth(rules, standing, part, ONE, (ZERO, ZERO))


def worth(rules, standing, part, cost, ends):
    # Chances and points to come are one sum: the cost of each point till the end, and what that end brings.
    who = winner(rules, standing)
    refuse_bad_part(part)
    if who is not None:
        return ends[who]
    points = Race(rules.points(), LEAD, part, cost)
    games = race_above(points, rules.games(), LEAD)
    sets = race_above(games, rules.sets(), MATCH_LEAD)
    set_ends = ends_behind_step(sets, standing[0], ends)
    game_ends = ends_behind_step(games, standing[1], set_ends)
    return lowest(points.worth_from(standing[2], game_ends))


def race_above(below, goal, lead):
    # A step of the race above is a whole race below: its part is who wins that, its cost what that costs.
    free = Race(below.goal, below.lead, below.part, ZERO)
    part = free.worth_from(NOUGHT, (ONE, ZERO))
    cost = below.worth_from(NOUGHT, (ZERO, ZERO))
    return Race(goal, lead, lowest(part), lowest(cost))


def ends_behind_step(race, pair, ends):
    return [race.worth_from(one_more(pair, who), ends) for who in (0, 1)]


def lowest(one):
    return fraction(one[0], one[1])


def top_over(one, bottom):
    return one[0] * (bottom // one[1])


# Points, games and sets are run for alike: each step is won by player 0 with a part and has a cost, and the
# first with the goal and the lead wins. What a race tells isn't in lowest terms: to lower it once, at the end,
# is far less work with great numbers.
class Race:
    def __init__(self, goal, lead, part, cost):
        self.goal = goal
        self.lead = lead
        self.part = part
        self.cost = cost

    def worth_from(self, pair, ends):
        if is_won(pair, self.goal, self.lead):
            return ends[0] if pair[0] > pair[1] else ends[1]
        bottom = common_multiple(common_multiple(ends[0][1], ends[1][1]), self.cost[1])
        tops = [top_over(one, bottom) for one in (ends[0], ends[1], self.cost)]
        lacks = self.lacks(pair)
        level = self.level(tops)
        scales = [level[1]]
        for step in range(lacks[0] + lacks[1] - 2):
            scales.append(scales[step] * self.part[1])
        return (self.top_from(lacks, level[0], scales, tops), scales[-1] * bottom)

    def lacks(self, pair):
        # From the goal on only the lead counts, so both numbers are lowered to where one step is still lacking.
        beyond = max(max(pair) - self.goal + 1, 0)
        return (self.goal + beyond - pair[0], self.goal + beyond - pair[1])

    def level(self, tops):
        # Where both lack one step. With a lead of two, each two steps end the race or come back here:
        # the sum over all such rounds is that of one round, divided by the chance that a round ends the race.
        own = self.part[0]
        whole = self.part[1]
        other = whole - own
        if self.lead == MATCH_LEAD:
            return (own * tops[0] + other * tops[1] + whole * tops[2], whole)
        top = own * own * tops[0] + other * other * tops[1] + 2 * whole * whole * tops[2]
        return (top, own * own + other * other)

    def top_from(self, lacks, level_top, scales, tops):
        # All that lack as many steps together stand over one bottom, so whole numbers will do.
        found = {(1, 1): level_top}
        for lack in range(2, lacks[1] + 1):
            found[(0, lack)] = tops[0] * scales[lack - 2]
        for lack in range(2, lacks[0] + 1):
            found[(lack, 0)] = tops[1] * scales[lack - 2]
        for one in range(1, lacks[0] + 1):
            for other in range(1, lacks[1] + 1):
                if (one, other) != (1, 1):
                    behind_own = self.part[0] * found[(one - 1, other)]
                    behind_other = (self.part[1] - self.part[0]) * found[(one, other - 1)]
                    found[(one, other)] = tops[2] * scales[one + other - 2] + behind_own + behind_other
        return found[lacks]
