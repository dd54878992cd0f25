"""Circuits with loops that settle, or flip for ever."""
