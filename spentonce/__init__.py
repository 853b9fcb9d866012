"""Coins made once and spent once, on branches of which the heaviest counts."""
