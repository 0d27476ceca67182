"""Rows that grow by sums of neighbours, row after row and for ever."""
