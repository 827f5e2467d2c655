"""Words melted by rules, and whether each has one end."""
