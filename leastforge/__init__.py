"""Leastforge: a house of making in which no rule is done without need."""
