"""Turnfriends: halls of people, led to one another by turns."""
