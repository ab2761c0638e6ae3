"""Pins and bores whose sizes are known only as ranges: whether so many of them surely fit, and what tests tell."""
