package imports

// queue is a heap of texts, made for package heap: the lowest one comes first.
type queue []string

func (q queue) Len() int           { return len(q) }
func (q queue) Less(i, j int) bool { return q[i] < q[j] }
func (q queue) Swap(i, j int)      { q[i], q[j] = q[j], q[i] }

// Push puts a text behind the others.
func (q *queue) Push(x any) { *q = append(*q, x.(string)) }

// Pop takes the last text away.
func (q *queue) Pop() any {
	last := len(*q) - 1
	s := (*q)[last]
	*q = (*q)[:last]
	return s
}
