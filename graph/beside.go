package graph

import "sync"

// besideOthers does something with all things of each one, in their order, by a goroutine of its own.
func besideOthers[T any](each map[string][]T, do func(thing T)) {
	var group sync.WaitGroup
	for _, things := range each {
		group.Go(func() {
			for _, thing := range things {
				do(thing)
			}
		})
	}
	group.Wait()
}
