"""Seencursors: what one knows who lists a table that is rebuilt."""
