"""Tightranges: the least ranges that the rules of a looping program keep."""
