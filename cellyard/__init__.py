"""Cellyard: processes in cells."""
