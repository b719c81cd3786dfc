"""Anyworker: services that do not mind who serves."""
