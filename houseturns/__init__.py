"""The books of a clearing house."""
