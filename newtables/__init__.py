"""Newtables: newcomers who sit down beside somebody, or open a table."""
