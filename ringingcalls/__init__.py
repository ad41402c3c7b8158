"""Ringingcalls: calls between devices, by houses that ask several at once."""
