"""How many each: data models, and all finite databases that keep them."""
