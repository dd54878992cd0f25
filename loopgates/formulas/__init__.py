"""Formulas of Boolean functions, and of the settings at which gates settle."""
