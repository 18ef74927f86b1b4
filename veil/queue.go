package veil

// waiting is a frame that was put out and not yet taken.
type waiting struct {
	place   int // among all frames of its session
	payload string
}

// queue is frames that wait, the one first that was put out first.
type queue []waiting

func (q *queue) add(place int, payload string) {
	*q = append(*q, waiting{place: place, payload: payload})
}

func (q *queue) empty() bool { return len(*q) == 0 }

// take takes the first frame out. Its place is wiped, as it may still be kept for a while by those behind it.
func (q *queue) take() string {
	payload := (*q)[0].payload
	(*q)[0] = waiting{}
	*q = (*q)[1:]
	if q.empty() {
		*q = nil
	}
	return payload
}

// ahead tells whether the first frame of a queue was put out ahead of that of another one.
func (q *queue) ahead(other *queue) bool {
	if q.empty() || other.empty() {
		return !q.empty()
	}
	return (*q)[0].place < (*other)[0].place
}
