"""Fromruns: protocols learned from runs alone."""
