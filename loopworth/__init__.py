"""Loopworth: arcs that do not cross, closed to loops of a told worth."""
