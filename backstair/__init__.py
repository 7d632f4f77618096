"""Backstair: machines that run both ways."""
