"""Lostblock: prints from carved blocks that only ever lose wood."""
