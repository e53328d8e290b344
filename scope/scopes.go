package scope

// entry is a name that a scope has.
type entry struct {
	means  *meaning
	number int    // its place in the list of scopes
	hides  *entry // the one of the same name that an outer scope has
}

// scopes are those within one another in which something stands: all that they have declared so far, one behind the other.
type scopes struct {
	list  []*entry
	begin int               // where the innermost scope begins in the list
	inner map[string]*entry // of each name the last one in the list
}

// open begins a scope within the innermost one, and tells what ends it.
func (s *scopes) open() func() {
	begin, count := s.begin, len(s.list)
	s.begin = count
	return func() {
		s.cut(count)
		s.begin = begin
	}
}

// cut takes all off the list but so many.
func (s *scopes) cut(count int) {
	for i := len(s.list) - 1; i >= count; i-- {
		e := s.list[i]
		s.inner[e.means.name] = e.hides
	}
	s.list = s.list[:count]
}

// add has the innermost scope know a name that it does not have.
func (s *scopes) add(m *meaning) {
	e := &entry{means: m, number: len(s.list), hides: s.inner[m.name]}
	s.list = append(s.list, e)
	s.inner[m.name] = e
}

// has says whether the innermost scope has a name.
func (s *scopes) has(name string) bool {
	e := s.inner[name]
	return e != nil && e.number >= s.begin
}

// find tells what a name means by the innermost scope that has it; nil, if none has.
func (s *scopes) find(name string) *meaning {
	if e := s.inner[name]; e != nil {
		return e.means
	}
	return nil
}
