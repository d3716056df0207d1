/- Own work of the verifier: OgLabM PvYld OgK. -/
import Derived.Test.YtefajaiioljjoaaOmAV
import Derived.Test.YtefajaiioljjoaaOmAU
import Derived.Test.YtefajaiioljjoaaOmAQ
set_option linter.all false
set_option exponentiation.threshold 3000
set_option linter.deprecated false
/- NUMBERINGS AND LABELS: what they are. -/
namespace Go.PI
set_option maxRecDepth 10000
set_option maxHeartbeats 4000000
def es (f g : Nat → Nat) (n s k : Nat) : Nat := (bfs f g s n).getD k 0
def ei (f g : Nat → Nat) (n s x : Nat) : Nat := (bfs f g s n).idxOf x
def rn (e e' f : Nat → Nat) (k : Nat) : Nat := e' (f (e k))
end Go.PI
/- PLAIN VALUES: the body of a loop over a function. -/
namespace Go.PI
def pfold (T : List PV) : List Tmp → List PV → List PV
  | p :: ps, a :: as => pfold (T.set p a) ps as
  | _, _ => T
theorem pfold_rel {H : Heap} {W : Nat → Prop} {β : List Nat} : ∀ {ps : List Tmp} {T : List PV} {T' : List AV} {as : List PV} {bs : List AV}, All2 (RelV H W β) T T' → All2 (RelV H W β) as bs → All2 (RelV H W β) (pfold T ps as) (foldPar T' ps bs)
  | [], T, T', as, bs, h, k => by
    cases k <;> exact h
  | p :: ps, T, T', as, bs, h, k => by
    cases k with
    | nil => exact h
    | cons a b => exact pfold_rel (ps := ps) (All2.set h a p) b
def Ex.cont (e : Ex) : Bool := e.jump.isNone
def LpD.to (y : LpD) (e : Ex) : LpD := { y with st := if e.cont then .ready else .done, e := e }
def LpD.busy (y : LpD) : LpD := { y with st := .busy }
theorem cy_of (O : Opn) {C : Ctx} {i : Nat} {ps : List PV} {σ : List StB} {d : Nat} {Q : Bool → List StB → Prop} {x : LpD} (hi : σ[i]? = some (.lp x)) (hst : x.st = .ready) (hlen : ps.length = x.ps.size)
    (h : ∀ c k, k + d ≤ c → wC O (some i) C c x.as ⟨pfold x.T x.ps.toList ps, σ, k⟩ fun e s => e = .normal ∧ ∃ y, s.σ[i]? = some (.lp y) ∧ y.st = .ready ∧
      wC O (some i) C c x.bd ⟨s.T, s.σ.set i (.lp y.busy), s.k⟩ fun e s2 => ∃ z, s2.σ[i]? = some (.lp z) ∧ s2.k ≤ k + d ∧ Q e.cont (s2.σ.set i (.lp (z.to e)))) : Cy C i ps σ d Q := by
  intro H0 W0 c k W β H as l I hc hl hr
  obtain ⟨hW, L, hL, hx⟩ := I.lop i x l hi hl
  have hst0 : SR (some i) W β H H0 W0 c ⟨pfold x.T x.ps.toList ps, σ, k⟩ ⟨foldPar L.tmps L.params.toList as, H, []⟩ := by
    refine ⟨W, β, ⟨fun _ => rfl, List.nodup_nil, fun d hd => by cases hd⟩, Ext.refl _ _ _, I, ?_⟩
    rw [hx.ps]
    exact pfold_rel hx.T hr
  obtain ⟨n1, e1, t1, h1, s1, ⟨W1, β1, hd1, E1, I1, hr1⟩, he1, y, hy, hyst, h2⟩ := wC_ok (rd := some i) (rdH := some l) (show β[i]? = some l from hl) (h c k hc) hst0
  subst he1
  obtain ⟨T1, H1, D1⟩ := t1
  simp only at hd1 E1 I1 hr1 h2
  have hD1 : D1 = [] := hd1.nil rfl
  subst hD1
  have hl1 := E1.bt _ _ hl
  obtain ⟨hW1, L1, hL1, hy1⟩ := I1.lop i y l hy hl1
  obtain ⟨E2, I2⟩ := I1.writeB hy rfl hl1 (y := .lp y.busy) (bk := .loop { L1 with state := .busy }) ⟨_, rfl, rfl, hy1.e, hy1.ps, hy1.as, hy1.bd, hy1.T⟩
  have E12 := E1.trans E2
  have hst2 : SR (some i) W1 β1 (H1.set l (.loop { L1 with state := .busy })) H0 W0 c ⟨s1.T, s1.σ.set i (.lp y.busy), s1.k⟩ ⟨T1, H1.set l (.loop { L1 with state := .busy }), []⟩ :=
    ⟨W1, β1, ⟨fun _ => rfl, List.nodup_nil, fun d hd => by cases hd⟩, Ext.refl _ _ _, I2, RelVs.ext E2 hr1⟩
  obtain ⟨n2, e2, t2, h3, s2, ⟨W2, β2, hd2, E3, I3, hr2⟩, z, hz, hk, hQ⟩ := wC_ok (rd := some i) (rdH := some l) (show β1[i]? = some l from hl1) h2 hst2
  obtain ⟨T2, H2, D2⟩ := t2
  simp only at hd2 E3 I3 hr2 hz hk hQ
  have hD2 : D2 = [] := hd2.nil rfl
  subst hD2
  have hl2 := E3.bt _ _ hl1
  obtain ⟨hW2, L2, hL2, hz2⟩ := I3.lop i z l hz hl2
  obtain ⟨E4, I4⟩ := I3.writeB hz rfl hl2 (y := .lp (z.to e2)) (bk := .loop { L2 with state := if e2.jump.isNone then .ready else .done, pending := e2.jump }) ⟨_, rfl, rfl, rfl, hz2.ps, hz2.as, hz2.bd, hz2.T⟩
  refine ⟨max n1 n2, .bool e2.jump.isNone, H2.set l (.loop { L2 with state := if e2.jump.isNone then .ready else .done, pending := e2.jump }), ?_, e2.cont, _, s2.k, W2, β2, (E12.trans E3).trans E4, I4, rfl, hQ, hk⟩
  have hal : as.length = L.params.size := by rw [hx.ps, ← hlen, hr.length]
  rw [← hx.as] at h1
  rw [← hx.bd] at h3
  have h1' := ev_mono (Nat.le_max_left n1 n2) _ _ _ _ h1
  have h3' : ev C (max n1 n2) (some l) L.body ⟨T1, H1.set l (.loop { L1 with state := .busy }), []⟩ = some (e2, ⟨T2, H2, []⟩) := ev_mono (Nat.le_max_right n1 n2) _ _ _ _ h3
  simp only [yieldF, hL]
  rw [if_pos ⟨hal, hx.st.trans hst⟩, h1']
  simp only [hL1]
  rw [if_pos (hy1.st.trans hyst), h3']
  simp only [hL2]
end Go.PI
/- CONJUGATE PERMUTATIONS have cycles of the same lengths; quotients rounded down. -/
namespace Go.PI
section
variable {n : Nat} {c c' d d' h h' : Nat → Nat}
def Conj (n : Nat) (c d h : Nat → Nat) : Prop := ∀ x, x < n → d (h x) = h (c x)
theorem Conj.inv (hc : IsP n c c') (hh : IsP n h h') (k : Conj n c d h) (hd : IsP n d d') : Conj n d c h' := fun x hx => by
  have := k (h' x) (hh.glt x hx)
  rw [hh.fg x hx] at this
  rw [this, hh.gf _ (hc.lt _ (hh.glt x hx))]
end
def FloorIs (p q k : Int) : Prop := ∃ m, p = k * q + m ∧ (0 < q → 0 ≤ m ∧ m < q) ∧ (q < 0 → q < m ∧ m ≤ 0)
end Go.PI
