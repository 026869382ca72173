"""Dilution: the orders of a dealing point, and the least swing of the price that covers what trading costs."""
