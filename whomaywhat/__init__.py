"""Whomaywhat: access rules, and the comparison of two sets of access rules."""
