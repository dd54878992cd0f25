"""Circuits, their settings, their wires and their loops."""
