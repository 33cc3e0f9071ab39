"""The pairing of laws and quantities."""
