"""Pullworks: nets of iterators, pulled very far."""
