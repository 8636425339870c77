"""Lotmarks: cells renewed all at once, in lots, or one by one."""
