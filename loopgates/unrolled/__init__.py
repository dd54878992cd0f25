"""Circuits without loops in the place of others."""
