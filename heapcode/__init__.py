"""Heapcode: what code for heaps does, for lists of every size."""
