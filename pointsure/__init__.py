"""Pointsure: what every name of a program may point to, told with papers."""
