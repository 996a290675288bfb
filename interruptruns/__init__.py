"""Interruptruns: exact longest times of small programs that answer requests."""
