"""Firenegatives: firing negative numbers on graphs, how long it lasts, and where it ends."""
