"""What no size moves, and what can be steered and watched."""
