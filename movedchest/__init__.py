"""Movedchest: heavy chests tipped and turned, told by counts and slants."""
