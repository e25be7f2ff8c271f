"""What stamps out of a finite stock can tell of copies that come and go."""
