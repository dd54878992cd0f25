"""Known values of circuits, and the papers that show them."""
