"""States of circuits and steps between them."""
