"""Classhouse: classes linked by names, a stack machine, and a checker of its methods."""
