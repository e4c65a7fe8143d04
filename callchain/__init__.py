"""Callchain: news passed on by calls, one by each a round."""
