package check

import (
	"sync"

	"latchkey/api"
)

// look is one at an image: what there is, and what may not be.
type look struct {
	blocks   []string
	head     head
	mutex    sync.Mutex       // over what stands below: several goroutines read
	nodes    map[int]api.Node // of each page to which the walk comes; it has no keys, if the page has no node
	findings []api.Finding    // in no order
}

// lookedAt is a look at an image, when it is done.
func lookedAt(blocks []string) *look {
	l := &look{blocks: blocks, nodes: map[int]api.Node{}}
	var right bool
	if l.head, right = headThatCounts(blocks); !right {
		l.find(api.FindSuper, 0)
	}
	if l.head.root != 0 {
		l.read()
		l.walk()
	}
	return l
}

// find notes what may not be. It takes the lock.
func (l *look) find(kind, page int) {
	l.mutex.Lock()
	defer l.mutex.Unlock()
	l.findings = append(l.findings, api.Finding{Kind: kind, Page: page})
}

// keep notes what stands on a page. It takes the lock.
func (l *look) keep(page int, n api.Node) {
	l.mutex.Lock()
	defer l.mutex.Unlock()
	l.nodes[page] = n
}

// keys is how many keys the leaves have together.
func (l *look) keys() int {
	sum := 0
	for _, n := range l.nodes {
		if n.Leaf {
			sum += len(n.Keys)
		}
	}
	return sum
}
