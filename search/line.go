package search

import "dunnage/api"

// weight is how many moves more a node may be away for one unmet want less, and
// stand as far ahead in line. Whatever it is, what is told holds; the greater it
// is, the sooner many wants are met, and the longer are the plans.
const weight = 3

// ranks is more than any rank: no more than MaxMoves are done, and there are no
// more wants than pods.
const ranks = api.MaxMoves + weight*api.MaxPods + 1

// line is nodes that wait to be expanded: by rising rank, of one rank in the
// order in which they came.
type line struct {
	byRank [ranks][]*node
	many   int
}

func rank(n *node) int { return api.MaxMoves - n.purse.moves + weight*n.unmet }

func (l *line) put(n *node) {
	r := rank(n)
	l.byRank[r] = append(l.byRank[r], n)
	l.many++
}

// wouldBeLast tells whether a node, if it were put, would stand behind all others.
func (l *line) wouldBeLast(n *node) bool {
	for r := rank(n) + 1; r < ranks; r++ {
		if len(l.byRank[r]) > 0 {
			return false
		}
	}
	return true
}

// first takes out the first one; nil: there is none.
func (l *line) first() *node {
	for r := range ranks {
		if len(l.byRank[r]) > 0 {
			n := l.byRank[r][0]
			l.byRank[r][0] = nil // what was taken out isn't kept
			l.byRank[r] = l.byRank[r][1:]
			l.many--
			return n
		}
	}
	return nil
}

// last takes out the last one; nil: there is none.
func (l *line) last() *node {
	for r := ranks - 1; r >= 0; r-- {
		if end := len(l.byRank[r]) - 1; end >= 0 {
			n := l.byRank[r][end]
			l.byRank[r][end] = nil
			l.byRank[r] = l.byRank[r][:end]
			l.many--
			return n
		}
	}
	return nil
}
