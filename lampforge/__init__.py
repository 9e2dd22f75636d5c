"""Lampforge: plans of wires forged to gates, with papers that the lamps stay the same."""
