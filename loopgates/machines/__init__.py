"""Machines: circuits with registers, what they reach, and how they compare."""
