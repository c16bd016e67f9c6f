package file

// contents are a file's bytes. Of its pieces only the border between what is flushed and what is not can ever be seen, so that it stands for them.
type contents struct {
	bytes   []byte
	flushed int // so many of them, from the first one on
}

func (c contents) extended(s string) contents {
	return contents{append(c.bytes, s...), c.flushed}
}

func (c contents) saved() contents { return contents{c.bytes, len(c.bytes)} }

func (c contents) isSaved() bool { return c.flushed == len(c.bytes) }

func (c contents) first(n int) contents {
	return contents{c.bytes[:n], min(c.flushed, n)}
}

// crashed is what a crash leaves: so many of the bytes that are not flushed, the last of them spoilt.
func (c contents) crashed(left, spoil int) contents {
	n := min(max(left, 0), len(c.bytes)-c.flushed)
	kept := c.first(c.flushed + n)
	if n > 0 {
		kept.bytes[len(kept.bytes)-1] ^= byte(spoil)
	}
	return kept.saved()
}
