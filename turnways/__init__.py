"""Turnways: callers' own functions side by side, decided for all turns."""
