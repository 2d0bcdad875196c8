"""Anyshift: senders that share a line and begin whenever."""
