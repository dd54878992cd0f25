"""Modules, their behaviours, and nets of them."""
