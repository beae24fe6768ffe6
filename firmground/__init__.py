"""Firmground: processes that run ahead of their logs."""
