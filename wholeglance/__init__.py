"""Wholeglance: boxes that are read one by one, seen as they all stood at one moment."""
