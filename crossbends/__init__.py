"""Crossbends: orders, crosses and bends, and a polynomial for each order."""
