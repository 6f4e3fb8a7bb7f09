"""The tests of tightranges."""
