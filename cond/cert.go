package cond

import "ullage/api"

// exact is a point of a certificate.
func exact(x, y int) api.Point { return api.Point{X: x, Lo: y, Hi: y} }

// areCertified reports whether points are those of a certificate.
func areCertified(l []api.Point) bool {
	if len(l) < 2 {
		return false
	}
	last := -1
	for _, p := range l {
		if p.X <= last || p.X > api.MaxAngle || !within(bounds(p), around(api.MaxY)) || p != exact(p.X, p.Lo) {
			return false
		}
		last = p.X
	}
	return true
}

// checkNeed returns ErrArg if an area can't be needed.
func checkNeed(need int) api.Errno {
	if !within(one(need), around(api.MaxNeed)) {
		return api.ErrArg
	}
	return api.OK
}

// plain is the plain certificate of a rest.
func (r rest) plain() api.Cert {
	var c api.Cert
	for _, p := range r.part() {
		c.Points = append(c.Points, exact(p.X, p.Lo))
	}
	return c
}

// spans reports whether a certificate goes from the first angle of a rest to the last one.
func (r rest) spans(l []api.Point) bool {
	return l[0].X == r.angles.Lo && l[len(l)-1].X == r.angles.Hi
}

// bears reports whether the margin is nowhere below the straight line from a to b. Where it is not below a, nor b, nor any point between them, it is nowhere.
func (r rest) bears(a, b api.Point) bool {
	if a.Lo > at(r.margin, a.X).Lo || b.Lo > at(r.margin, b.X).Lo {
		return false
	}
	for _, p := range r.margin.Points {
		if a.X < p.X && p.X < b.X && a.Lo*(b.X-p.X)+b.Lo*(p.X-a.X) > p.Lo*(b.X-a.X) {
			return false
		}
	}
	return true
}

// Prove returns a certificate of an area.
func Prove(s api.Ship, l api.Load, most, need int) (api.Cert, api.Errno) {
	r, e := wideRest(s, l, most)
	if e != api.OK {
		return api.Cert{}, e
	}
	if e := checkNeed(need); e != api.OK {
		return api.Cert{}, e
	}
	c := r.plain()
	if shown, _ := Shown(c); shown < need {
		return api.Cert{}, api.ErrShort
	}
	return c, api.OK
}

// Check reports whether a certificate shows an area.
func Check(s api.Ship, l api.Load, most, need int, c api.Cert) api.Errno {
	r, e := wideRest(s, l, most)
	if e != api.OK {
		return e
	}
	if e := checkNeed(need); e != api.OK {
		return e
	}
	shown, e := Shown(c)
	if e != api.OK {
		return e
	}
	if !r.spans(c.Points) {
		return api.ErrCert
	}
	for i := 1; i < len(c.Points); i++ {
		if !r.bears(c.Points[i-1], c.Points[i]) {
			return api.ErrCert
		}
	}
	if shown < need {
		return api.ErrShort
	}
	return api.OK
}

// Shown returns twice the area that a certificate shows by itself.
func Shown(c api.Cert) (int, api.Errno) {
	if len(c.Points) > api.MaxCert {
		return 0, api.ErrLong
	}
	if !areCertified(c.Points) {
		return 0, api.ErrCert
	}
	sum := 0
	for i := 1; i < len(c.Points); i++ {
		a, b := c.Points[i-1], c.Points[i]
		sum += (a.Lo + b.Lo) * (b.X - a.X)
	}
	return sum, api.OK
}
