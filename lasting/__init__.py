"""What things are under lasting effects."""
