"""Expressions, texts and a shell."""
