"""Lotheads: lots joined and named by heads, with few steps to them."""
