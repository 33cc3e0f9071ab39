"""Which sizes act together, and with which ones a model is exceptional."""
