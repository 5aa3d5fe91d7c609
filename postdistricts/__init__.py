"""Post codes: districts parted anew, codes that stay, old ones read for a while."""
