"""Scripts of conversations, read and told aloud."""
