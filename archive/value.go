package archive

import "flatland/api"

// The fields of values, in the order in which package api lists them.

func (t *tape) num(x *api.Num) {
	t.lists(&x.C)
	t.numbers(&x.D)
}

func (t *tape) vec(v *api.Vec) {
	t.num(&v.X)
	t.num(&v.Y)
}

func (t *tape) vecs(l *[]api.Vec) { list(t, l, t.vec) }

func (t *tape) field(f *api.Field) {
	t.numbers(&f.Poly)
	t.number(&f.Lo)
	t.number(&f.Hi)
	t.number(&f.Den)
}

func (t *tape) table(x *api.Table) {
	t.field(&x.Field)
	t.vecs(&x.Corners)
}

func (t *tape) state(s *api.State) {
	t.number(&s.Side)
	t.num(&s.T)
	t.vec(&s.Dir)
}

func (t *tape) slot(s *api.Slot) {
	t.number(&s.Face)
	t.number(&s.Edge)
}

func (t *tape) slots(l *[]api.Slot) { list(t, l, t.slot) }

func (t *tape) surface(s *api.Surface) {
	t.field(&s.Field)
	list(t, &s.Faces, t.vecs)
	list(t, &s.Glue, t.slots)
}

func (t *tape) ray(r *api.Ray) {
	t.slot(&r.From)
	t.slot(&r.To)
	t.num(&r.T)
	t.truth(&r.Open)
}

func (t *tape) origami(o *api.Origami) {
	t.numbers(&o.Right)
	t.numbers(&o.Up)
}

func (t *tape) orbit(x *api.Orbit) {
	list(t, &x.Labels, t.origami)
	t.numbers(&x.S)
	t.numbers(&x.T)
}

func (t *tape) rows(r *api.Rows) {
	t.numbers(&r.Top)
	t.numbers(&r.Bottom)
}

func (t *tape) rate(r *api.Rate) {
	t.numbers(&r.Num)
	t.numbers(&r.Den)
}
