"""Roadgaps: places along a road told by all distances between them."""
