package learn

import "cachewise/api"

// patience is how many times in a row the rate stands still till it is drawn anew.
const patience = 10

// spare is how many bits a draw has more than a part of One.
const spare = 2

// pace is the rate, and what moves it: windows of requests, each held against the one ahead by its hits.
type pace struct {
	rate           api.Fix
	requests, hits int
	// The hits of the window ahead, if there was one.
	ahead int
	ended bool
	// Whether the rate moved down last, and how many times in a row it has stood still.
	down  bool
	still int
}

// newPace tells the pace of a learner that was asked for nothing so far.
func newPace() pace { return pace{rate: part(45, 100)} }

// count tells the window, of so many requests, of one more; next takes a draw.
func (p *pace) count(hit bool, long int, next func() uint64) {
	p.requests++
	if hit {
		p.hits++
	}
	// A window that was made shorter may have more than that by now.
	if p.requests < long {
		return
	}
	if p.ended {
		p.turn(next)
	}
	p.ahead, p.ended = p.hits, true
	p.requests, p.hits = 0, 0
}

// turn moves the rate on where the window that ends has more hits than the one ahead, and back where it has fewer.
func (p *pace) turn(next func() uint64) {
	if p.hits == p.ahead {
		p.stand(next)
		return
	}
	p.still = 0
	p.down = p.down != (p.hits < p.ahead)
	p.move()
}

// stand leaves the rate as it is, but not for ever.
func (p *pace) stand(next func() uint64) {
	p.still++
	if p.still == patience {
		p.still = 0
		p.rate = max(api.Fix(next()>>spare), leastRate())
	}
}

// move lets the rate be greater, or less, by a fourth of itself.
func (p *pace) move() {
	fourth := p.rate / 4
	if p.down {
		p.rate = max(p.rate-fourth, leastRate())
	} else {
		p.rate = min(p.rate+fourth, api.One)
	}
}

// leastRate tells what the rate never is below.
func leastRate() api.Fix { return part(1, 1000) }
