"""Councils in which some groups carry, weights that tell which, and trades that show that none do."""
