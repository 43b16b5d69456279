"""Fateboards: worlds of cells, and papers that tell their fate at all generations."""
