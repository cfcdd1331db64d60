"""Surehollows: hollows that every land within measured bounds must have."""
