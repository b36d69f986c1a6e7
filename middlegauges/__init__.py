"""Middlegauges: what gauges can show by rules on two of them."""
