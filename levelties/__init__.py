"""Heights read along ties, when some of the readings can be wrong."""
