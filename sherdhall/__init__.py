"""Sherdhall: a store of rows in pieces over houses, mended, looked after and moved."""
