"""Leftproducts: what a step leaves, and its products of two, three, four and more at once."""
