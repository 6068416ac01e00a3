"""Programs made into steps that can all be undone, with few cells and nothing left."""
