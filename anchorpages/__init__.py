"""Texts of indented nodes with anchors, read and written."""
