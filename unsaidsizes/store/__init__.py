"""Models that are changed under promises."""
