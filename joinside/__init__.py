"""Joinside: webs told as trees of sides and joins."""
