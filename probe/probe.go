// Package probe makes what the tests of several layers try out. No layer calls it.
package probe

// Every calls f with each text of at most n bytes of the alphabet.
func Every(alphabet string, n int, f func(s string)) {
	var from func(s []byte)
	from = func(s []byte) {
		f(string(s))
		if len(s) >= n {
			return
		}
		for i := range len(alphabet) {
			from(append(s, alphabet[i]))
		}
	}
	from(nil)
}
