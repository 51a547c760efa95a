"""Stillweb: programs laid out once as a web that never changes, and one messenger who walks it."""
