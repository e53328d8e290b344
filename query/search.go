package query

// search is what a Get from outside has come to. It knows of more results than there is room for, so that none is worked out twice for one Get.
type search struct {
	met  map[string]*visit
	way  []*visit // the keys that are being worked out, each of them asked for by the one ahead of it
	open []*visit // the keys of the way, and those that lean on one of it, in the order in which they were met
	done []*visit // the keys that were worked out, in the order in which that ended
}

// visit is a key that a search has come to.
type visit struct {
	result *result // none while it is being worked out
	ring   bool    // whether it is on a ring; that is known as soon as an answer of it is told
	open   bool    // whether it stands in the search's open
	place  int     // where it stands there
	low    int     // the lowest place there of a key that it is known to lean on, or its own
	asks   []asked
	known  map[question]struct{} // what is in asks
}

// begin answers a Get from outside.
func (e *Engine) begin(key string) told {
	e.search = &search{met: map[string]*visit{}}
	t := e.find(key)
	e.keep(e.search.done)
	e.search = nil
	return t
}

// find tells the result of a key, and that the key which is being worked out leans on it.
func (e *Engine) find(key string) told {
	s := e.search
	v := s.met[key]
	if v == nil {
		v = s.enter(key)
		v.result = e.settle(key, v)
		s.leave(v)
	}
	s.lean(v)
	if v.ring {
		return told{}
	}
	return told{text: v.result.text, is: true}
}

// enter puts a key at the end of the way.
func (s *search) enter(key string) *visit {
	at := len(s.open)
	v := &visit{open: true, place: at, low: at}
	s.met[key] = v
	s.way = append(s.way, v)
	s.open = append(s.open, v)
	return v
}

// leave takes the last key off the way. If it leans on one of those that are left there, it stays open, and so is told to be on a ring; else nothing that was met behind it leans on one of these.
func (s *search) leave(v *visit) {
	s.way = s.way[:len(s.way)-1]
	s.done = append(s.done, v)
	if v.low < v.place {
		return
	}
	for _, w := range s.open[v.place:] {
		w.open = false
	}
	s.open = s.open[:v.place]
}

// lean has the last key of the way lean on v. If v is open, both of them are on a ring, as each key of the way leans on all behind it.
func (s *search) lean(v *visit) {
	if !v.open {
		return
	}
	by := s.way[len(s.way)-1]
	by.low = min(by.low, v.low)
	v.ring = true
}

// note keeps what was told to the key that is being worked out.
func (s *search) note(q question, t told) {
	v := s.way[len(s.way)-1]
	if _, ok := v.known[q]; ok {
		return
	}
	v.known[q] = struct{}{}
	v.asks = append(v.asks, asked{question: q, told: t})
}

// settle tells what the result of a key is now, if it is on no ring: the one that is kept, if it holds, else one that is worked out.
func (e *Engine) settle(key string, v *visit) *result {
	if r := e.kept()[key]; r != nil && e.holds(r) {
		return r
	}
	v.known = map[question]struct{}{}
	text := e.work(key)
	v.known = nil
	return &result{key: key, text: text, asks: v.asks}
}

// holds says whether all that was asked for a result is told as it was. It is asked in the same order, and no further than to what is told otherwise: what stands behind that may not be asked at all now, and so may not lead to a ring.
func (e *Engine) holds(r *result) bool {
	if r.held == e.revision {
		return true
	}
	for _, a := range r.asks {
		if e.answer(a.question) != a.told {
			return false
		}
	}
	return true
}

// answer tells what a question is told now.
func (e *Engine) answer(q question) told {
	if q.result {
		return e.find(q.key)
	}
	return e.inputs[q.key]
}

// work has a key's result worked out. A derive that panics, or is nil, is not what the chapter asks for; its answer is taken for the empty text, so that Get does not panic.
func (e *Engine) work(key string) (text string) {
	defer func() { recover() }()
	e.runs.Add(1)
	return e.derive(e, key)
}
