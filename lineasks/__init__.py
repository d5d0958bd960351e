"""Lineasks: places asked of stations over one line."""
