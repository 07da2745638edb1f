"""Loopbounds: what holds in every round of a loop."""
