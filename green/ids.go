package green

// idWidth is how many bytes a packed number has. As all have as many, texts of packed numbers are the same just if the numbers are; and no number gets so high, by the document's bound, that it has more.
const idWidth = 4

// appendID packs one more number, its lowest byte first.
func appendID(packed []byte, id int) []byte {
	for i := range idWidth {
		packed = append(packed, byte(id>>(8*i)))
	}
	return packed
}

// unpacked tells the numbers that were packed into a text.
func unpacked(packed string) []int {
	ids := make([]int, len(packed)/idWidth)
	for i := range len(packed) {
		ids[i/idWidth] |= int(packed[i]) << (8 * (i % idWidth))
	}
	return ids
}
