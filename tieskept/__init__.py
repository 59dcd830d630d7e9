"""Networks of compare-and-exchange gates, and the order of equal things."""
