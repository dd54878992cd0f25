"""Names, bits, values, rows and tables."""
