"""Grids of pixels turned by rational angles."""
