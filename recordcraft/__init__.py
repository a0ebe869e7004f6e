"""Recordcraft: kinds of records from declared fields."""
