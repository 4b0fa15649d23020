"""Shoeparty: how many guests of a party find a pair of shoes that fits."""
