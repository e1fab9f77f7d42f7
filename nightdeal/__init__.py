"""Nightdeal: nights of a telescope, dealt among watchers."""
