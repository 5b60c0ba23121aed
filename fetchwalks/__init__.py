"""Fetchwalks: how often a program asks its store, for all data."""
