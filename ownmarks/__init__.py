"""People who mark one another: marks, scores, ranks, and how far own marks can move them."""
