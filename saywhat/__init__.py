"""What one who sees how things stand does best to tell, by a rule that is known beforehand."""
