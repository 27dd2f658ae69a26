"""Courtscore: matches of points, games and sets, and who is ahead."""
