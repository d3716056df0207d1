/- Own work of the verifier: PvCode PvIn0. -/
import Derived.Test.YtefajaiioljjoaaOwAR
import Derived.Test.YtefajaiioljjoaaOwAO
set_option linter.all false
set_option exponentiation.threshold 3000
set_option linter.deprecated false
/- PLAIN VALUES: code and calls. -/
namespace Go.PI
structure PSt where
  T : List PV
  σ : List StB
  k : Nat
def seqW (N : (Ex → PSt → Prop) → PSt → Prop) (Q : Ex → PSt → Prop) : Ex → PSt → Prop
  | .normal, s => N Q s
  | .exit i, s => Q (.exit i) s
  | .goto l, s => Q (.goto l) s
  | .ret, s => Q .ret s
def blockW (id : Nat) (Q : Ex → PSt → Prop) : Ex → PSt → Prop
  | .normal, s => Q .normal s
  | .exit i, s => match Nat.beq i id with
    | true => Q .normal s
    | false => Q (.exit i) s
  | .goto l, s => Q (.goto l) s
  | .ret, s => Q .ret s
def FrzS (s s0 : PSt) : Prop := ∀ (H : Heap) (W : Nat → Prop) (β : List Nat) (H0 : Heap) (W0 : Nat → Prop) (c : Nat) (T' : List AV), Sto H0 W0 c s.σ s.k W β H → All2 (RelV H W β) s.T T' → ∃ W2, Ext W β H W2 β H ∧ Sto H0 W0 c s0.σ s0.k W2 β H ∧ All2 (RelV H W2 β) s0.T T'
def CI (I : Nat → PSt → Prop) (m : Nat) (s : PSt) : Prop := ∃ s0, FrzS s s0 ∧ I m s0
theorem ci {I : Nat → PSt → Prop} {m : Nat} {s : PSt} (h : I m s) : CI I m s := ⟨s, fun _ W _ _ _ _ _ a b => ⟨W, Ext.refl _ _ _, a, b⟩, h⟩
theorem frzS_tmp {T : List PV} {σ : List StB} {k i : Nat} {s0 : PSt} {v : PV} (hv : T[i]? = some v) (h : frzAK σ v fun p σ' => s0 = ⟨T.set i p, σ', k⟩) : FrzS ⟨T, σ, k⟩ s0 := by
  intro H W β H0 W0 c T' I hr
  obtain ⟨a, h1, h2⟩ := hr.get hv
  obtain ⟨p, σ', W', f, r, rfl⟩ := frzAK_ok h I h2
  refine ⟨W', f.1, f.2.1, ?_⟩
  have := (RelVs.ext f.1 hr).set (RelV.clo (β := β) r) i
  have e : T'.set i a = T' := by
    apply List.ext_getElem?
    intro j
    by_cases hj : j = i
    · subst hj
      rw [List.getElem?_set_self (List.getElem?_eq_some_iff.1 h1).1, h1]
    · rw [List.getElem?_set_ne (Ne.symm hj)]
  rw [e] at this
  exact this
def loopW (I : Nat → PSt → Prop) (m : Nat) (Q : Ex → PSt → Prop) : Ex → PSt → Prop
  | .normal, s => ∃ m', m' < m ∧ CI I m' s
  | .exit i, s => Q (.exit i) s
  | .goto l, s => Q (.goto l) s
  | .ret, s => Q .ret s
def rngS (rd : Option Nat) (σ : List StB) (K : Prop) : Prop :=
  match rd with
  | none => K
  | some j => (∃ y, σ[j]? = some (.lp y)) ∧ K
def rngE (σ : List StB) (i : Nat) (K : Ex → Prop) : Prop := ∃ y, σ[i]? = some (.lp y) ∧ y.st ≠ .busy ∧ K y.e
structure RngK (rd : Option Nat) (C : Ctx) (c : Nat) (f : PV) (x : LpD) (σ : List StB) (k : Nat) (K : Ex → List StB → Nat → Prop) : Prop where
  out : ∃ g cs, ((f = .fn g ∧ cs = []) ∨ f = .fnc g cs) ∧ (C.fn g).isNone = false ∧ ∃ js, sealsK σ js fun σ => rngS rd σ (∃ d R, k + 2 + d ≤ c ∧ Cm C g (.yld σ.length :: cs) (σ ++ [.lp x]) d R ∧
    ∀ r σ', R r σ' → rngE σ' σ.length fun e => K e (σ'.set σ.length .dead) (k + 2 + d))
def wC (O : Opn) (rd : Option Nat) (C : Ctx) (c : Nat) : Code → PSt → (Ex → PSt → Prop) → Prop
  | .skip, s, Q => Q .normal s
  | .label _, s, Q => Q .normal s
  | .seq a b, s, Q => wC O rd C c a s (seqW (fun Q s' => wC O rd C c b s' Q) Q)
  | .cond x a b, ⟨T, σ, k⟩, Q => popdK T x fun x => match x with
    | .bool true => wC O rd C c a ⟨T, σ, k⟩ Q
    | .bool false => wC O rd C c b ⟨T, σ, k⟩ Q
    | _ => False
  | .block id b, s, Q => wC O rd C c b s (blockW id Q)
  | .loop b, s, Q => ∃ I : Nat → PSt → Prop, (∃ m, CI I m s) ∧ ∀ m s, I m s → wC O rd C c b s (loopW I m Q)
  | .exit i, s, Q => Q (.exit i) s
  | .goto l, s, Q => Q (.goto l) s
  | .ret, s, Q => Q .ret s
  | .region _ ops draw, ⟨T, σ, k⟩, Q => match draw with
    | true => (match O.b 1000000 with
      | false => growS7 O C T σ ops.toList = true ∧ wOps O C c true ops.toList ops.toList T σ k fun T σ k => Q .normal ⟨T, σ, k⟩
      | true => ∃ m : Option (Nat × Nat × List (Nat × Nat)), (match m with
        | none => growS7 O C T σ ops.toList = true ∧ wOps O C c true ops.toList ops.toList T σ k fun T σ k => Q .normal ⟨T, σ, k⟩
        | some (cc, d, ps) => growS8 C cc d ps ops.toList = true ∧ wOpsC O C c ops.toList σ ps d (cc + d) ops.toList T σ k fun T σ k => Q .normal ⟨T, σ, k⟩))
    | false => wOps O C c false ops.toList ops.toList T σ k fun T σ k => Q .normal ⟨T, σ, k⟩
  | .rangeFunc f ps as bd, ⟨T, σ, k⟩, Q => popdK T f fun f => RngK rd C c f ⟨.ready, .normal, T, ps, as, bd⟩ σ k fun e σ k => Q e ⟨T, σ, k⟩
  | .scope _, _, _ => False
  | .refuse _, _, _ => False
section
variable {O : Opn} {C : Ctx} {H0 : Heap} {W0 : Nat → Prop} {c : Nat} {Wr : Nat → Prop} {βr : List Nat} {Hr : Heap}
structure DM (rd : Option Nat) (Hr : Heap) (W : Nat → Prop) (β : List Nat) (H : Heap) (D : List Nat) : Prop where
  nil : rd.isSome = true → D = []
  nodup : D.Nodup
  at_ : ∀ d ∈ D, Hr.n ≤ d ∧ d < H.n ∧ ¬ W d ∧ H.get d = .dfr ∧ ∀ i : Nat, β[i]? ≠ some d
theorem DM.ext {rd : Option Nat} {Hr H H' : Heap} {W W' : Nat → Prop} {β β' : List Nat} {D : List Nat} (h : DM rd Hr W β H D) (e : Ext W β H W' β' H') : DM rd Hr W' β' H' D :=
  ⟨h.nil, h.nodup, fun d hd => by
    obtain ⟨h1, h2, h3, h4, h5⟩ := h.at_ d hd
    refine ⟨h1, Nat.lt_of_lt_of_le h2 e.n, fun hw => h3 (e.w d h2 hw), (e.get d h2 h3).trans h4, fun i hi => ?_⟩
    obtain ⟨j, hj⟩ := e.bk i d hi h2
    exact h5 j hj⟩
def SR (rd : Option Nat) (Wr : Nat → Prop) (βr : List Nat) (Hr H0 : Heap) (W0 : Nat → Prop) (c : Nat) (s : PSt) (s' : St) : Prop := ∃ W β, DM rd Hr W β s'.H s'.D ∧ Ext Wr βr Hr W β s'.H ∧ Sto H0 W0 c s.σ s.k W β s'.H ∧ All2 (RelV s'.H W β) s.T s'.T
theorem FrzS.sr {rd : Option Nat} {s s0 : PSt} {s' : St} (f : FrzS s s0) (r : SR rd Wr βr Hr H0 W0 c s s') : SR rd Wr βr Hr H0 W0 c s0 s' := by
  obtain ⟨W, β, hd, E, I, hr⟩ := r
  obtain ⟨W2, E2, I2, hr2⟩ := f _ _ _ _ _ _ _ I hr
  exact ⟨W2, β, hd.ext E2, E.trans E2, I2, hr2⟩
def RdS (rd rdH : Option Nat) (β : List Nat) : Prop :=
  match rd, rdH with
  | none, none => True
  | some j, some l => β[j]? = some l
  | _, _ => False
theorem Sto.mark {H : Heap} {W : Nat → Prop} {β : List Nat} {σ : List StB} {k : Nat} (I : Sto H0 W0 c σ k W β H) (hk : k < c) : Ext W β H W β (H.push .dfr) ∧ Sto H0 W0 c σ (k + 1) W β (H.push .dfr) :=
  I.call ⟨Nat.le_succ _, Nat.le_refl _, fun A hA => by rw [Heap.get_push I.nlim, if_neg (by omega)]⟩ (by omega)
theorem rng_ok {rd rdH : Option Nat} {f : Operand} {ps : Array Tmp} {as bd : Code} {T : List PV} {σ : List StB} {k : Nat} {Q : Ex → PSt → Prop} {s' : St} (h : wC O rd C c (.rangeFunc f ps as bd) ⟨T, σ, k⟩ Q) (hrd : RdS rd rdH βr) (r : SR rd Wr βr Hr H0 W0 c ⟨T, σ, k⟩ s') :
    Runs C rdH (.rangeFunc f ps as bd) s' fun e s2' => ∃ s2, SR rd Wr βr Hr H0 W0 c s2 s2' ∧ Q e s2 := by
  obtain ⟨p, h1, h2⟩ := popdK_ok (show popdK T f _ from h)
  obtain ⟨g, cs, hf, hg, js, h3⟩ := h2.out
  obtain ⟨T', H, D⟩ := s'
  obtain ⟨W, β, hd, E0, I, hr⟩ := r
  simp only at hd E0 I hr
  obtain ⟨v, g1, g2⟩ := pOp_rel h1 (TR_of hr f)
  obtain ⟨bs, rfl, hb⟩ : ∃ bs, v = .fn g [] bs ∧ All2 (RelV H W β) cs bs := by
    rcases hf with ⟨rfl, rfl⟩ | rfl
    · exact ⟨[], g2.fn_inv, .nil⟩
    · exact g2.fnc_inv
  obtain ⟨σ1, W1, E1, I1, l1, h3⟩ := sealsK_ok h3 I
  have hroom := I1.room
  -- the rest, behind the marks
  have rest : ∀ (Hm : Heap) (Dm : List Nat) (km : Nat) (dfr : Nat), Ext W1 β H W1 β Hm → Sto H0 W0 c σ1 km W1 β Hm → km ≤ k + 1 → DM rd Hr W1 β Hm Dm → (∃ d R, k + 2 + d ≤ c ∧ Cm C g (.yld σ1.length :: cs) (σ1 ++ [.lp ⟨.ready, .normal, T, ps, as, bd⟩]) d R ∧ ∀ r σ', R r σ' → rngE σ' σ1.length fun e => Q e ⟨T, σ'.set σ1.length .dead, k + 2 + d⟩) →
      ∃ n v H3 lp, callF C (ev C n) g ([] ++ [.yld Hm.n] ++ bs) (Hm.push (.loop { state := .ready, pending := none, tmps := T', params := ps, assign := as, body := bd, dfr := dfr })) = some (v, H3) ∧ H3.get Hm.n = .loop lp ∧ lp.state ≠ .busy ∧ ∃ e s2, lp.pending = e.jump ∧ SR rd Wr βr Hr H0 W0 c s2 ⟨T', H3.set Hm.n .dead, Dm⟩ ∧ Q e s2 := by
    intro Hm Dm km dfr Em Im hkm hDm ⟨d, R, hdc, hcm, hR⟩
    have Ea := E1.trans Em
    obtain ⟨W3, E3, I3, hβ⟩ := Im.pushB (by omega) (x := .lp ⟨.ready, .normal, T, ps, as, bd⟩) (bk := .loop { state := .ready, pending := none, tmps := T', params := ps, assign := as, body := bd, dfr := dfr }) ⟨_, rfl, rfl, rfl, rfl, rfl, rfl, RelVs.ext Ea hr⟩
    obtain ⟨n, v, H3, hcall, r', σ', k', W', β', E4, I4, -, hRr, hk'⟩ := hcm _ _ _ _ _ _ _ _ (I3.raise (k' := k + 2) (by omega) (by omega)) hdc (.cons (.yld hβ) (RelVs.ext (Ea.trans E3) hb))
    obtain ⟨y, hy, hst, hQ⟩ := hR _ _ hRr
    have hβ' := E4.bt _ _ hβ
    obtain ⟨hWl, L, hL, hLy⟩ := I4.lop _ _ _ hy hβ'
    obtain ⟨E5, I5⟩ := I4.writeB hy rfl hβ' (y := .dead) (bk := .dead) trivial
    refine ⟨n, v, H3, L, by simpa [call] using hcall, hL, by rw [hLy.st]; exact hst, y.e, _, hLy.e, ⟨W', β', ?_, ?_, I5.raise hk' hdc, ?_⟩, hQ⟩
    · exact hDm.ext ((E3.trans E4).trans E5)
    · exact ((E0.trans Ea).trans (E3.trans E4)).trans E5
    · exact RelVs.ext ((Ea.trans (E3.trans E4)).trans E5) hr
  -- what was handed on
  have fin : ∀ (Hm : Heap) (Dm : List Nat) (dfr : Nat), startE rdH ⟨T', H, D⟩ = some (dfr, Hm, Dm) → ¬ lim ≤ H.n + 1 →
      (∃ n v H3 lp, callF C (ev C n) g ([] ++ [.yld Hm.n] ++ bs) (Hm.push (.loop { state := .ready, pending := none, tmps := T', params := ps, assign := as, body := bd, dfr := dfr })) = some (v, H3) ∧ H3.get Hm.n = .loop lp ∧ lp.state ≠ .busy ∧ ∃ e s2, lp.pending = e.jump ∧ SR rd Wr βr Hr H0 W0 c s2 ⟨T', H3.set Hm.n .dead, Dm⟩ ∧ Q e s2) →
      Runs C rdH (.rangeFunc f ps as bd) ⟨T', H, D⟩ fun e s2' => ∃ s2, SR rd Wr βr Hr H0 W0 c s2 s2' ∧ Q e s2 := by
    rintro Hm Dm dfr hs hlim ⟨n, v, H3, lp, q1, q2, q3, e, s2, q4, q5, q6⟩
    cases hj : e.jump with
    | none =>
      have he : e = .normal := by cases e <;> first | rfl | cases hj
      subst he
      refine ⟨n + 1, .normal, ⟨T', H3.set Hm.n .dead, Dm⟩, ?_, s2, q5, q6⟩
      simp only [ev, evF, rangeF, g1, hg, hs, q1, q2, q4, Ex.jump, if_neg q3, if_neg hlim]
      rfl
    | some cd =>
      have hrun : ev C 1 rdH cd ⟨T', H3.set Hm.n .dead, Dm⟩ = some (e, ⟨T', H3.set Hm.n .dead, Dm⟩) := by
        cases e <;> first | (cases hj; rfl) | cases hj
      refine ⟨max n 1 + 1, e, ⟨T', H3.set Hm.n .dead, Dm⟩, ?_, s2, q5, q6⟩
      have q1' := callF_mono (C := C) (ev_mono (Nat.le_max_left n 1)) q1
      simp only [ev, evF, rangeF, g1, hg, hs, q1', q2, q4, hj, if_neg q3, if_neg hlim]
      exact ev_mono (Nat.le_max_right n 1) _ _ _ _ hrun
  cases rd with
  | none =>
    cases rdH with
    | some l => exact hrd.elim
    | none =>
      have h3 : ∃ d R, k + 2 + d ≤ c ∧ _ := h3
      have hkc : k + 2 ≤ c := by obtain ⟨d, R, h, -⟩ := h3; omega
      obtain ⟨Em, Im⟩ := I1.mark (by omega)
      have hn := I1.nlim
      have hlt : H.n + 1 < lim := by have := I1.hi; omega
      refine fin _ _ _ rfl (by omega) (rest _ _ (k + 1) _ Em Im (Nat.le_refl _) ⟨fun h => by (cases h), ?_, fun d hd' => ?_⟩ h3)
      · refine List.nodup_cons.2 ⟨fun hm => ?_, hd.nodup⟩
        have := (hd.at_ _ hm).2.1
        exact absurd this (Nat.lt_irrefl _)
      · rcases List.mem_cons.1 hd' with rfl | hm
        · refine ⟨E0.n, Nat.lt_succ_self _, fun hw => ?_, by rw [Heap.get_push hn, if_pos rfl], fun i hi => ?_⟩
          · exact absurd (I1.wlt _ hw) (Nat.lt_irrefl _)
          · exact absurd (I1.bl i _ hi).2 (Nat.lt_irrefl _)
        · exact ((hd.ext E1).ext Em).at_ d hm
  | some j =>
    cases rdH with
    | none => exact hrd.elim
    | some l =>
      obtain ⟨⟨y, hy⟩, h3⟩ := h3
      have hkc : k + 2 ≤ c := by obtain ⟨d, R, h, -⟩ := h3; omega
      have hβl : β[j]? = some l := E0.bt _ _ hrd
      obtain ⟨-, L, hL, -⟩ := I1.lop _ _ _ hy hβl
      have hlt : H.n + 1 < lim := by have := I1.hi; omega
      refine fin H D L.dfr (by simp only [startE, hL]) (by omega) (rest H D k L.dfr (Ext.refl _ _ _) I1 (by omega) (hd.ext E1) h3)
theorem wC_ok {rd rdH : Option Nat} (hrd : RdS rd rdH βr) : ∀ {code : Code} {s : PSt} {Q : Ex → PSt → Prop} {s' : St}, wC O rd C c code s Q → SR rd Wr βr Hr H0 W0 c s s' → Runs C rdH code s' fun e s2' => ∃ s2, SR rd Wr βr Hr H0 W0 c s2 s2' ∧ Q e s2
  | .skip, s, Q, s', h, r => ⟨1, _, _, rfl, s, r, h⟩
  | .label _, s, Q, s', h, r => ⟨1, _, _, rfl, s, r, h⟩
  | .exit _, s, Q, s', h, r => ⟨1, _, _, rfl, s, r, h⟩
  | .goto _, s, Q, s', h, r => ⟨1, _, _, rfl, s, r, h⟩
  | .ret, s, Q, s', h, r => ⟨1, _, _, rfl, s, r, h⟩
  | .scope _, s, Q, s', h, r => h.elim
  | .refuse _, s, Q, s', h, r => h.elim
  | .rangeFunc f ps as bd, ⟨T, σ, k⟩, Q, s', h, r => rng_ok h hrd r
  | .seq a b, s, Q, s', h, r => by
    obtain ⟨n, e, t, h1, s2, r2, h2⟩ := wC_ok hrd (code := a) h r
    by_cases he : e = .normal
    · subst he
      obtain ⟨m, e2, t2, h3, h4⟩ := wC_ok hrd (code := b) h2 r2
      refine ⟨max n m + 1, e2, t2, ?_, h4⟩
      simp only [ev, evF, ev_mono (Nat.le_max_left n m) _ _ _ _ h1]
      exact ev_mono (Nat.le_max_right n m) _ _ _ _ h3
    · refine ⟨n + 1, e, t, ?_, s2, r2, ?_⟩
      · simp only [ev, evF, h1]
        cases e <;> first | rfl | exact absurd rfl he
      · cases e <;> first | exact h2 | exact absurd rfl he
  | .cond x a b, ⟨T, σ, k⟩, Q, s', h, r => by
    obtain ⟨p, h1, h2⟩ := popdK_ok (show popdK T x _ from h)
    obtain ⟨W, β, hd, E0, I, hr⟩ := r
    obtain ⟨v, g1, g2⟩ := pOp_rel h1 (TR_of hr x)
    split at h2
    · obtain ⟨n, e, t, h3, h4⟩ := wC_ok hrd (code := a) h2 ⟨W, β, hd, E0, I, hr⟩
      rw [g2.bool_inv] at g1
      exact ⟨n + 1, e, t, by simp only [ev, evF, g1]; exact h3, h4⟩
    · obtain ⟨n, e, t, h3, h4⟩ := wC_ok hrd (code := b) h2 ⟨W, β, hd, E0, I, hr⟩
      rw [g2.bool_inv] at g1
      exact ⟨n + 1, e, t, by simp only [ev, evF, g1]; exact h3, h4⟩
    · exact h2.elim
  | .block id b, s, Q, s', h, r => by
    obtain ⟨n, e, t, h1, s2, r2, h2⟩ := wC_ok hrd (code := b) h r
    cases e with
    | exit i =>
      by_cases hi : i = id
      · subst hi
        refine ⟨n + 1, .normal, t, by simp only [ev, evF, h1, if_true], s2, r2, ?_⟩
        simpa [blockW] using h2
      · refine ⟨n + 1, .exit i, t, by simp only [ev, evF, h1, if_neg hi], s2, r2, ?_⟩
        have hf : Nat.beq i id = false := by
          rw [Bool.eq_false_iff]; exact fun hh => hi (Nat.eq_of_beq_eq_true hh)
        simpa [blockW, hf] using h2
    | normal => exact ⟨n + 1, .normal, t, by simp only [ev, evF, h1], s2, r2, h2⟩
    | goto l => exact ⟨n + 1, .goto l, t, by simp only [ev, evF, h1], s2, r2, h2⟩
    | ret => exact ⟨n + 1, .ret, t, by simp only [ev, evF, h1], s2, r2, h2⟩
  | .loop b, s, Q, s', h, r => by
    obtain ⟨I, ⟨m, s0, hf0, hI⟩, hstep⟩ := h
    have key : ∀ m s s', I m s → SR rd Wr βr Hr H0 W0 c s s' → ∃ n k e t, loopF (ev C n) rdH b k s' = some (e, t) ∧ ∃ s2, SR rd Wr βr Hr H0 W0 c s2 t ∧ Q e s2 := by
      intro m
      induction m using Nat.strongRecOn with
      | ind m ih =>
        intro s s' hs r
        obtain ⟨n, e, t, h1, s2, r2, h2⟩ := wC_ok hrd (code := b) (hstep m s hs) r
        by_cases he : e = .normal
        · subst he
          obtain ⟨m', hm, s3, hf, hI'⟩ := h2
          obtain ⟨n2, k2, e2, t2, h3, h4⟩ := ih m' hm s3 t hI' (hf.sr r2)
          refine ⟨max n n2, k2 + 1, e2, t2, ?_, h4⟩
          unfold loopF
          rw [ev_mono (Nat.le_max_left n n2) _ _ _ _ h1]
          exact loopF_mono (ev_mono (Nat.le_max_right n n2)) (Nat.le_refl _) h3
        · refine ⟨n, 1, e, t, ?_, s2, r2, ?_⟩
          · unfold loopF
            rw [h1]
            cases e <;> first | rfl | exact absurd rfl he
          · cases e <;> first | exact h2 | exact absurd rfl he
    obtain ⟨n, k, e, t, h1, h2⟩ := key m s0 s' hI (hf0.sr r)
    refine ⟨max n k + 1, e, t, ?_, h2⟩
    simp only [ev, evF]
    exact loopF_mono (ev_mono (Nat.le_max_left n k)) (Nat.le_max_right n k) h1
  | .region id ops draw, ⟨T, σ, k⟩, Q, s', h, r => by
    unfold wC at h
    obtain ⟨T', H, D⟩ := s'
    obtain ⟨W, β, hd, E0, I, hr⟩ := r
    simp only at hd E0 I hr
    split at h
    · have key : ∃ n tr T2 H2, traceE C (ev C n) ops.toList ops.toList T' H = some tr ∧ lastOf tr = some (T2, H2) ∧ drawOk C ops.toList tr = true ∧ EndR H0 W0 c W β H (fun T σ k => Q .normal ⟨T, σ, k⟩) T2 H2 := by
        split at h
        · exact open_ok7 h.1 h.2 I hr
        · obtain ⟨m, h⟩ := h
          cases m with
          | none => exact open_ok7 h.1 h.2 I hr
          | some x =>
            obtain ⟨cc, d, ps⟩ := x
            exact open_ok8 h.1 h.2 I hr
      obtain ⟨n, tr, T2, H2, h1, h2, h3, T3, σ2, k2, W2, β2, E, I2, h4, h5⟩ := key
      exact ⟨n + 1, .normal, ⟨T2, H2, D⟩, by simp only [ev, evF, h1, h3, h2, if_true], ⟨T3, σ2, k2⟩, ⟨W2, β2, hd.ext E, E0.trans E, I2, h4⟩, h5⟩
    · obtain ⟨n, T2, H2, h1, T3, σ2, k2, W2, β2, E, I2, h4, h5⟩ := wOps_ok h I hr
      exact ⟨n + 1, .normal, ⟨T2, H2, D⟩, by simp [ev, evF, h1], ⟨T3, σ2, k2⟩, ⟨W2, β2, hd.ext E, E0.trans E, I2, h4⟩, h5⟩
def presK (C : Ctx) (T : List PV) (σ : List StB) : List ResultVar → (List PV → Prop) → Prop
  | [], K => K []
  | .tmp t :: r, K => pgetK T t fun v => presK C T σ r fun vs => K (v :: vs)
  | .cell a t :: r, K => pgetK T a fun p => ∃ v, ploadE C σ t p = some v ∧ presK C T σ r fun vs => K (v :: vs)
structure EndK (σ : List StB) (v : PV) (Q : PV → Prop) : Prop where
  out : ∃ js, sealsK σ js fun σ => frzAK σ v fun r _ => Q r
structure EndsK (σ : List StB) (vs : List PV) (Q : PV → Prop) : Prop where
  out : ∃ js, sealsK σ js fun σ => frzAsK σ vs fun rs _ => Q (.tup rs)
def wEnd (C : Ctx) (rs : List ResultVar) (Q : PV → Prop) (e : Ex) (s : PSt) : Prop :=
  match e with
  | .exit _ => False
  | .goto _ => False
  | _ => presK C s.T s.σ rs fun vs => match vs with
    | [v] => EndK s.σ v Q
    | vs => EndsK s.σ vs Q
structure EndFK (σ : List StB) (v : PV) (Q : TypeId → Nat → Nat → Nat → List PV → Prop) : Prop where
  out : ∃ i n cp z ty cs, v = .own i 0 n cp z ∧ σ[i]? = some (.live ty cs) ∧ Q ty n cp z cs
def wEndF (C : Ctx) (rs : List ResultVar) (Q : TypeId → Nat → Nat → Nat → List PV → Prop) (e : Ex) (s : PSt) : Prop :=
  match e with
  | .exit _ => False
  | .goto _ => False
  | _ => presK C s.T s.σ rs fun vs => match vs with
    | [v] => EndFK s.σ v Q
    | _ => False
structure EndUK (σ : List StB) (v : PV) (Q : TypeId → Nat → Nat → List PV → Prop) : Prop where
  out : ∃ i n z ty cs, v = .ownu i n z ∧ σ[i]? = some (.live ty cs) ∧ Q ty n z cs
def wEndU (C : Ctx) (rs : List ResultVar) (Q : TypeId → Nat → Nat → List PV → Prop) (e : Ex) (s : PSt) : Prop :=
  match e with
  | .exit _ => False
  | .goto _ => False
  | _ => presK C s.T s.σ rs fun vs => match vs with
    | [v] => EndUK s.σ v Q
    | _ => False
theorem getD_rel {H : Heap} {W : Nat → Prop} {β : List Nat} {T : List PV} {T' : List AV} (h : All2 (RelV H W β) T T') (t : Nat) : RelV H W β (T.getD t undefP) (T'.getD t undefA) := TR_of h (.tmp t)
theorem presK_ok {H : Heap} {W : Nat → Prop} {β : List Nat} {T : List PV} {T' : List AV} {σ : List StB} {k : Nat} (I : Sto H0 W0 c σ k W β H) (hr : All2 (RelV H W β) T T') : ∀ {rs : List ResultVar} {K : List PV → Prop}, presK C T σ rs K →
    ∃ vs us, K vs ∧ resultsE C T' H rs = some us ∧ All2 (RelV H W β) vs us
  | [], K, h => ⟨[], [], h, rfl, .nil⟩
  | .tmp t :: r, K, h => by
    have h1 := pgetK_ok (show pgetK T t _ from h)
    obtain ⟨vs, us, h2, h3, h4⟩ := presK_ok I hr h1
    exact ⟨_, _, h2, by simp only [resultsE, h3], .cons (getD_rel hr t) h4⟩
  | .cell a t :: r, K, h => by
    have h1 := pgetK_ok (show pgetK T a _ from h)
    obtain ⟨v, h0, h1⟩ := h1
    obtain ⟨vs, us, h2, h3, h4⟩ := presK_ok I hr h1
    obtain ⟨b, o, u, -, -, g1, g2⟩ := load_ok I h0 (getD_rel hr a)
    exact ⟨_, _, h2, by simp only [resultsE, g1, h3], .cons g2 h4⟩
theorem RelC.off {H H' : Heap} {W : Nat → Prop} (hg : ∀ A rw ty cs, H.get A = .cells rw ty cs → H'.get A = H.get A) {p : PV} {a : AV} (h : RelC H W p a) : RelC H' W p a := by
  induction h using RelC.rec (motive_2 := fun ps as _ => All2 (RelC H' W) ps as) with
  | int k n => exact .int k n
  | bool b => exact .bool b
  | str s => exact .str s
  | nilp => exact .nilp
  | nilf => exact .nilf
  | nilm => exact .nilm
  | nili => exact .nili
  | fn f => exact .fn f
  | fnc f _ ih => exact .fnc f ih
  | lnil => exact .lnil
  | lsle => exact .lsle
  | sl hW h1 hb hc _ ih => exact .sl hW ((hg _ _ _ _ h1).trans h1) hb hc ih
  | slu hW h1 hb hc _ ih => exact .slu hW ((hg _ _ _ _ h1).trans h1) hb hc ih
  | lptr hW h1 hb _ ih => exact .lptr hW ((hg _ _ _ _ h1).trans h1) hb ih
  | agg _ ih => exact .agg ih
  | tup _ ih => exact .tup ih
  | nil => exact .nil
  | cons _ _ i1 i2 => exact .cons i1 i2
theorem RelCs.off {H H' : Heap} {W : Nat → Prop} (hg : ∀ A rw ty cs, H.get A = .cells rw ty cs → H'.get A = H.get A) {ps : List PV} {as : List AV} (h : All2 (RelC H W) ps as) : All2 (RelC H' W) ps as := All2.mono' (fun _ _ => RelC.off hg) h
theorem RelV.off {H H' : Heap} {W : Nat → Prop} {β : List Nat} (hg : ∀ A rw ty cs, H.get A = .cells rw ty cs → H'.get A = H.get A) {p : PV} {a : AV} (h : RelV H W β p a) : RelV H' W β p a := by
  induction h using RelV.rec (motive_2 := fun ps as _ => All2 (RelV H' W β) ps as) with
  | clo h => exact .clo (h.off hg)
  | nils => exact .nils
  | fnc f _ ih => exact .fnc f ih
  | omap h => exact .omap h
  | yld h => exact .yld h
  | own o n c z h => exact .own o n c z h
  | ownu n z h => exact .ownu n z h
  | ownq o n z h => exact .ownq o n z h
  | optr o h => exact .optr o h
  | bptr hn h1 hb h => exact .bptr hn ((hg _ _ _ _ h1).trans h1) hb (RelCs.off hg h)
  | agg _ ih => exact .agg ih
  | tup _ ih => exact .tup ih
  | nil => exact .nil
  | cons _ _ i1 i2 => exact .cons i1 i2
theorem RelVs.off {H H' : Heap} {W : Nat → Prop} {β : List Nat} (hg : ∀ A rw ty cs, H.get A = .cells rw ty cs → H'.get A = H.get A) {ps : List PV} {as : List AV} (h : All2 (RelV H W β) ps as) : All2 (RelV H' W β) ps as := All2.mono' (fun _ _ => RelV.off hg) h
theorem Sto.off {H H' : Heap} {W : Nat → Prop} {β : List Nat} {σ : List StB} {k : Nat} (I : Sto H0 W0 c σ k W β H) (hn : H'.n = H.n) (hg : ∀ A, H.get A ≠ .dfr → H'.get A = H.get A) (hk : ∀ A, A < H0.n → H'.get A = H.get A) : Sto H0 W0 c σ k W β H' := by
  have hgc : ∀ A rw ty cs, H.get A = .cells rw ty cs → H'.get A = H.get A := fun A rw ty cs h => hg A (by rw [h]; simp)
  refine ⟨I.room, I.kc, by rw [hn]; exact I.lo, by rw [hn]; exact I.hi, fun A hA => (hk A hA).trans (I.keep A hA), I.w0n, I.w0, fun b hb => by rw [hn]; exact I.wn b hb, I.len, fun i b hb => by rw [hn]; exact I.bl i b hb, fun i t l b h1 h2 => ?_, fun i t l b h1 h2 => ?_, I.inj, fun i t l b h1 h2 => ?_, fun i t l b h1 h2 => ?_, fun i l b h1 h2 => ?_⟩
  · obtain ⟨q1, a, q2, q3⟩ := I.live i t l b h1 h2
    exact ⟨q1, a, (hg b (by rw [q2]; simp)).trans q2, RelCs.off hgc q3⟩
  · obtain ⟨q1, r, a, q2, q3⟩ := I.frz i t l b h1 h2
    exact ⟨q1, r, a, (hg b (by rw [q2]; simp)).trans q2, RelCs.off hgc q3⟩
  · obtain ⟨q1, a, q2, q3⟩ := I.liv i t l b h1 h2
    exact ⟨q1, a, (hg b (by rw [q2]; simp)).trans q2, RelVs.off hgc q3⟩
  · obtain ⟨q1, a, q2, q3⟩ := I.map i t l b h1 h2
    exact ⟨q1, a, (hg b (by rw [q2]; simp)).trans q2, All2.mono' (fun _ _ h => ⟨h.1, h.2.off hgc⟩) q3⟩
  · obtain ⟨q1, a, q2, q3⟩ := I.lop i l b h1 h2
    exact ⟨q1, a, (hg b (by rw [q2]; simp)).trans q2, q3.st, q3.e, q3.ps, q3.as, q3.bd, RelVs.off hgc q3.T⟩
theorem shut_all : ∀ {D : List Nat} {H : Heap}, D.Nodup → (∀ d ∈ D, d < H.n ∧ H.get d = .dfr) → H.n < lim → ∃ H', shutMarks D H = some H' ∧ H'.n = H.n ∧ ∀ A, A ∉ D → H'.get A = H.get A
  | [], H, _, _, _ => ⟨H, rfl, rfl, fun _ _ => rfl⟩
  | d :: ds, H, hd, h, hn => by
    obtain ⟨h1, h2⟩ := h d List.mem_cons_self
    have hp := Heap.get_set (H := H) (A := d) (b := .dead) h1 hn
    obtain ⟨hnd, hd'⟩ := List.nodup_cons.1 hd
    obtain ⟨H', g1, g2, g3⟩ := shut_all (D := ds) (H := H.set d .dead) hd' (fun x hx => by
      obtain ⟨q1, q2⟩ := h x (List.mem_cons_of_mem _ hx)
      refine ⟨q1, ?_⟩
      rw [hp, if_neg (fun e => hnd (by rw [← e]; exact hx))]
      exact q2) hn
    refine ⟨H', by simp only [shutMarks, h2, g1], g2, fun A hA => ?_⟩
    rw [List.mem_cons, not_or] at hA
    rw [g3 A hA.2, hp, if_neg hA.1]
theorem SR.shut {rd : Option Nat} {s : PSt} {s' : St} (r : SR rd Wr βr Hr H0 W0 c s s') : ∃ H', shutMarks s'.D s'.H = some H' ∧ ∃ W β, (H0.n ≤ Hr.n → Ext Wr βr Hr W β H') ∧ (H0.n ≤ Hr.n → Sto H0 W0 c s.σ s.k W β H') ∧ All2 (RelV H' W β) s.T s'.T := by
  obtain ⟨W, β, hd, E, I, hr⟩ := r
  obtain ⟨H', h1, h2, h3⟩ := shut_all hd.nodup (fun d h => ⟨(hd.at_ d h).2.1, (hd.at_ d h).2.2.2.1⟩) I.nlim
  have h4 : ∀ A, s'.H.get A ≠ .dfr → H'.get A = s'.H.get A := fun A hA => h3 A fun hm => hA (hd.at_ A hm).2.2.2.1
  have h5 : ∀ A, A < Hr.n → H'.get A = s'.H.get A := fun A hA => h3 A fun hm => by have := (hd.at_ A hm).1; omega
  refine ⟨H', h1, W, β, fun hle => ⟨by rw [h2]; exact E.n, fun A hA hw => (h5 A hA).trans (E.get A hA hw), E.w, E.bt, fun A hA hb => (h5 A hA).trans (E.o A hA hb), E.bk⟩, fun hle => I.off h2 h4 fun A hA => h5 A (by omega), RelVs.off (fun A rw ty cs h => h4 A (by rw [h]; simp)) hr⟩
theorem start_rel {H : Heap} {ps : List PV} {avs : List AV} {n : Nat} (hw : ∀ b, W0 b → b < H.n) (hr : All2 (RelV H W0 []) ps avs) (hn : H.n + c < lim) :
    SR none W0 [] H H W0 c ⟨ps ++ List.replicate (n - ps.length) undefP, [], 0⟩ ⟨avs ++ List.replicate (n - avs.length) undefA, H, []⟩ := by
  refine ⟨W0, [], ⟨fun h => rfl, List.nodup_nil, fun d hd => by cases hd⟩, Ext.refl _ _ _, ⟨hn, Nat.zero_le _, Nat.le_refl _, Nat.le_refl _, fun _ _ => rfl, hw, fun _ h => h, fun _ h => .inl h, rfl, fun i b h => by simp at h, fun i t l b h => by simp at h, fun i t l b h => by simp at h, fun i j b h => by simp at h, fun i t l b h => by simp at h, fun i t l b h => by simp at h, fun i l b h => by simp at h⟩, ?_⟩
  rw [hr.length]
  exact All2.append hr (All2.replicate undef_rel _)
theorem cbO_of (O : Opn) {f : FuncId} {fi : FI} {ps : List PV} {c : Nat} {Q : PV → Prop} (hs : C.sum f = none) (hf : C.fn f = some fi)
    (h : wC O none C c fi.body ⟨ps ++ List.replicate (fi.ntmps - ps.length) undefP, [], 0⟩ (wEnd C fi.results Q)) : Cb C f ps c Q := by
  intro H W avs hw hr hn
  obtain ⟨n, e, t, h1, s2, hsr, h2⟩ := wC_ok (rd := none) (rdH := none) trivial h (start_rel hw hr hn)
  obtain ⟨T', H2', D'⟩ := t
  obtain ⟨H2, hsm, W2, β2, -, I, hr2⟩ := hsr.shut
  have I := I (Nat.le_refl _)
  simp only at hsm I hr2
  have hb : sumE C f avs H = none := by simp [sumE, hs]
  have key : (e = .normal ∨ e = .ret) ∧ ∃ us v, resultsE C T' H2 fi.results = some us ∧ (match us with | [v] => v | us => .tup us) = v ∧ ∃ r W3, Q r ∧ RelC H2 W3 r v ∧ ∀ A, W A → W3 A := by
    have h3 : (e = .normal ∨ e = .ret) ∧ presK C s2.T s2.σ fi.results fun vs => match vs with
      | [v] => EndK s2.σ v Q
      | vs => EndsK s2.σ vs Q := by
      cases e with
      | normal => exact ⟨.inl rfl, h2⟩
      | ret => exact ⟨.inr rfl, h2⟩
      | exit i => exact h2.elim
      | goto i => exact h2.elim
    refine ⟨h3.1, ?_⟩
    obtain ⟨vs, us, h4, h5, h6⟩ := presK_ok I hr2 h3.2
    refine ⟨us, _, h5, rfl, ?_⟩
    split at h4
    · cases h6 with
      | cons a b =>
        cases b
        obtain ⟨js, h4⟩ := h4.out
        obtain ⟨σ1, W1, E1, I1, -, h4⟩ := sealsK_ok h4 I
        obtain ⟨r, σ3, W3, f3, r3, q3⟩ := frzAK_ok h4 I1 (a.ext E1)
        exact ⟨r, W3, q3, r3, f3.2.1.w0⟩
    · rename_i hne
      obtain ⟨js, h4⟩ := h4.out
      obtain ⟨σ1, W1, E1, I1, -, h4⟩ := sealsK_ok h4 I
      obtain ⟨rs, σ3, W3, f3, r3, q3⟩ := frzAsK_ok h4 I1 (RelVs.ext E1 h6)
      refine ⟨.tup rs, W3, q3, ?_, f3.2.1.w0⟩
      have hl := h6.length
      cases us with
      | nil => exact .tup r3
      | cons u us => cases us with
        | nil =>
          cases vs with
          | nil => simp at hl
          | cons p vs => cases vs with
            | nil => exact absurd rfl (hne p)
            | cons _ _ => simp at hl
        | cons _ _ => exact .tup r3
  obtain ⟨he, us, v, h3, h4, r, W3, h5, h6, h7⟩ := key
  refine ⟨n, v, H2, ?_, r, h5, h6.mono (fun _ _ _ => rfl) (fun A _ h => h7 A h), I.lo, by have := I.hi; have := I.kc; omega, I.keep⟩
  unfold call callF callB
  rw [hb]
  simp only [hf, h1]
  rcases he with rfl | rfl
  · simp only [hsm, h3]
    cases us with
    | nil => rw [← h4]
    | cons u us => cases us with
      | nil => rw [← h4]
      | cons _ _ => rw [← h4]
  · simp only [hsm, h3]
    cases us with
    | nil => rw [← h4]
    | cons u us => cases us with
      | nil => rw [← h4]
      | cons _ _ => rw [← h4]
theorem cb_of {f : FuncId} {fi : FI} {ps : List PV} {c : Nat} {Q : PV → Prop} (hs : C.sum f = none) (hf : C.fn f = some fi)
    (h : wC Opn.no none C c fi.body ⟨ps ++ List.replicate (fi.ntmps - ps.length) undefP, [], 0⟩ (wEnd C fi.results Q)) : Cb C f ps c Q := cbO_of _ hs hf h
theorem ctO_of (O : Opn) {f : FuncId} {fi : FI} {ps : List PV} {c : Nat} {Q : PV → Prop} (hs : C.sum f = none) (hf : C.fn f = some fi)
    (h : wC O none C c fi.body ⟨ps ++ List.replicate (fi.ntmps - ps.length) undefP, [], 0⟩ (wEnd C fi.results Q)) : Ct C f ps c Q := (cbO_of O hs hf h).ct
theorem ct_of {f : FuncId} {fi : FI} {ps : List PV} {c : Nat} {Q : PV → Prop} (hs : C.sum f = none) (hf : C.fn f = some fi)
    (h : wC Opn.no none C c fi.body ⟨ps ++ List.replicate (fi.ntmps - ps.length) undefP, [], 0⟩ (wEnd C fi.results Q)) : Ct C f ps c Q := (cb_of hs hf h).ct
def oneP : List PV → PV
  | [v] => v
  | vs => .tup vs
structure EndMK (σ : List StB) (k m : Nat) (vs : List PV) (Q : PV → List StB → Prop) : Prop where
  out : ∃ js, sealsK σ js fun σ1 => k ≤ m ∧ ∃ ms, frzmK σ1 ms vs fun vs' σ2 => Q (oneP vs') σ2
def wEndM (C : Ctx) (rs : List ResultVar) (m : Nat) (Q : PV → List StB → Prop) (e : Ex) (s : PSt) : Prop :=
  match e with
  | .exit _ => False
  | .goto _ => False
  | _ => presK C s.T s.σ rs fun vs => EndMK s.σ s.k m vs Q
theorem cm_of (O : Opn) {f : FuncId} {fi : FI} {ps : List PV} {σ : List StB} {d : Nat} {Q : PV → List StB → Prop} (hs : C.sum f = none) (hf : C.fn f = some fi)
    (h : ∀ c k, k + d ≤ c → wC O none C c fi.body ⟨ps ++ List.replicate (fi.ntmps - ps.length) undefP, σ, k⟩ (wEndM C fi.results (k + d) Q)) : Cm C f ps σ d Q := by
  intro H0 W0 c k W β H avs I hc hr
  have hst : SR none W β H H0 W0 c ⟨ps ++ List.replicate (fi.ntmps - ps.length) undefP, σ, k⟩ ⟨avs ++ List.replicate (fi.ntmps - avs.length) undefA, H, []⟩ := by
    refine ⟨W, β, ⟨fun h => rfl, List.nodup_nil, fun d hd => by cases hd⟩, Ext.refl _ _ _, I, ?_⟩
    rw [hr.length]
    exact All2.append hr (All2.replicate undef_rel _)
  obtain ⟨n, e, t, h1, s2, hsr, h2⟩ := wC_ok (rd := none) (rdH := none) trivial (h c k hc) hst
  obtain ⟨T', H2', D'⟩ := t
  obtain ⟨H2, hsm, W2, β2, E2, I2, hr2⟩ := hsr.shut
  have E2 := E2 I.lo
  have I2 := I2 I.lo
  simp only at hsm I2 hr2 E2
  have hb : sumE C f avs H = none := by simp [sumE, hs]
  have h3 : (e = .normal ∨ e = .ret) ∧ presK C s2.T s2.σ fi.results fun vs => EndMK s2.σ s2.k (k + d) vs Q := by
    cases e with
    | normal => exact ⟨.inl rfl, h2⟩
    | ret => exact ⟨.inr rfl, h2⟩
    | exit i => exact h2.elim
    | goto i => exact h2.elim
  obtain ⟨vs, us, h4, h5, h6⟩ := presK_ok I2 hr2 h3.2
  obtain ⟨js, h4⟩ := h4.out
  obtain ⟨σ3, W3, E3, I3, -, hk, ms, h4⟩ := sealsK_ok h4 I2
  obtain ⟨vs', σ4, W4, f4, r4, h4⟩ := frzmK_ok h4 I3 (RelVs.ext E3 h6)
  have hv : RelV H2 W4 β2 (oneP vs') (match us with | [v] => v | us => .tup us) := by
    have hl := r4.length
    cases r4 with
    | nil => exact .tup .nil
    | cons a b => cases b with
      | nil => exact a
      | cons b1 b2 => exact .tup (.cons a (.cons b1 b2))
  refine ⟨n, _, H2, ?_, _, σ4, s2.k, W4, β2, (E2.trans E3).trans f4.1, f4.2.1, hv, h4, hk⟩
  unfold call callF callB
  rw [hb]
  simp only [hf, h1]
  rcases h3.1 with rfl | rfl
  · simp only [hsm, h5]
    cases us with
    | nil => rfl
    | cons u us => cases us with
      | nil => rfl
      | cons _ _ => rfl
  · simp only [hsm, h5]
    cases us with
    | nil => rfl
    | cons u us => cases us with
      | nil => rfl
      | cons _ _ => rfl
theorem cf_of {f : FuncId} {fi : FI} {ps : List PV} {c : Nat} {Q : TypeId → Nat → Nat → Nat → List PV → Prop} (hs : C.sum f = none) (hf : C.fn f = some fi)
    (h : wC Opn.no none C c fi.body ⟨ps ++ List.replicate (fi.ntmps - ps.length) undefP, [], 0⟩ (wEndF C fi.results Q)) : Cfr C f ps c Q := by
  intro H W avs hw hr hn
  obtain ⟨n, e, t, h1, s2, hsr, h2⟩ := wC_ok (rd := none) (rdH := none) trivial h (start_rel hw (RelVs.clo hr) hn)
  obtain ⟨T', H2', D'⟩ := t
  obtain ⟨H2, hsm, W2, β2, -, I, hr2⟩ := hsr.shut
  have I := I (Nat.le_refl _)
  simp only at hsm I hr2
  have hb : sumE C f avs H = none := by simp [sumE, hs]
  have h3 : (e = .normal ∨ e = .ret) ∧ presK C s2.T s2.σ fi.results fun vs => match vs with
    | [v] => EndFK s2.σ v Q
    | _ => False := by
    cases e with
    | normal => exact ⟨.inl rfl, h2⟩
    | ret => exact ⟨.inr rfl, h2⟩
    | exit i => exact h2.elim
    | goto i => exact h2.elim
  obtain ⟨vs, us, h4, h5, h6⟩ := presK_ok I hr2 h3.2
  split at h4
  · rename_i v
    obtain ⟨i, m, cp, z, ty, cs, rfl, hi, h4⟩ := h4.out
    cases h6 with
    | cons a b' =>
      cases b'
      obtain ⟨b, hβ, rfl⟩ := a.own_inv
      obtain ⟨hW, acs, g1, g2⟩ := I.live i ty cs b hi hβ
      have hbb := I.bl i b hβ
      refine ⟨n, _, H2, ?_, ty, m, cp, z, cs, b, acs, h4, rfl, hbb.1, hbb.2, g1, All2.mono' (fun _ _ h => h.mono (fun _ _ _ => rfl) (fun A _ h => ?_)) g2, I.lo, by have := I.hi; have := I.kc; omega, I.keep⟩
      · unfold call callF callB
        rw [hb]
        simp only [hf, h1]
        rcases h3.1 with rfl | rfl
        · simp only [hsm, h5]
        · simp only [hsm, h5]
      · rcases h with h | rfl
        · exact I.w0 A h
        · exact hW
  · exact h4.elim
theorem cu_of {f : FuncId} {fi : FI} {ps : List PV} {c : Nat} {Q : TypeId → Nat → Nat → List PV → Prop} (hs : C.sum f = none) (hf : C.fn f = some fi)
    (h : wC Opn.no none C c fi.body ⟨ps ++ List.replicate (fi.ntmps - ps.length) undefP, [], 0⟩ (wEndU C fi.results Q)) : Cfu C f ps c Q := by
  intro H W avs hw hr hn
  obtain ⟨n, e, t, h1, s2, hsr, h2⟩ := wC_ok (rd := none) (rdH := none) trivial h (start_rel hw (RelVs.clo hr) hn)
  obtain ⟨T', H2', D'⟩ := t
  obtain ⟨H2, hsm, W2, β2, -, I, hr2⟩ := hsr.shut
  have I := I (Nat.le_refl _)
  simp only at hsm I hr2
  have hb : sumE C f avs H = none := by simp [sumE, hs]
  have h3 : (e = .normal ∨ e = .ret) ∧ presK C s2.T s2.σ fi.results fun vs => match vs with
    | [v] => EndUK s2.σ v Q
    | _ => False := by
    cases e with
    | normal => exact ⟨.inl rfl, h2⟩
    | ret => exact ⟨.inr rfl, h2⟩
    | exit i => exact h2.elim
    | goto i => exact h2.elim
  obtain ⟨vs, us, h4, h5, h6⟩ := presK_ok I hr2 h3.2
  split at h4
  · rename_i v
    obtain ⟨i, m, z, ty, cs, rfl, hi, h4⟩ := h4.out
    cases h6 with
    | cons a b' =>
      cases b'
      obtain ⟨b, hβ, rfl⟩ := a.ownu_inv
      obtain ⟨hW, acs, g1, g2⟩ := I.live i ty cs b hi hβ
      have hbb := I.bl i b hβ
      refine ⟨n, _, H2, ?_, ty, m, z, cs, b, acs, h4, rfl, hbb.1, hbb.2, g1, All2.mono' (fun _ _ h => h.mono (fun _ _ _ => rfl) (fun A _ h => ?_)) g2, I.lo, by have := I.hi; have := I.kc; omega, I.keep⟩
      · unfold call callF callB
        rw [hb]
        simp only [hf, h1]
        rcases h3.1 with rfl | rfl
        · simp only [hsm, h5]
        · simp only [hsm, h5]
      · rcases h with h | rfl
        · exact I.w0 A h
        · exact hW
  · exact h4.elim
end
end Go.PI
/- PLAIN VALUES: integers of any size, their arithmetic. -/
namespace Go.PI
open IM
set_option maxRecDepth 10000
set_option maxHeartbeats 1000000
def pIs (xs : List Int) : PV := .lst xs.length (xs.map pn)
def pI (X : Int) : PV := pIs (digits X)
def pR (L : List Int) : PV := .lst L.length (L.map pI)
theorem KpH.refl (H : Heap) (c : Nat) : KpH H H c := ⟨Nat.le_refl _, by omega, fun _ _ => rfl⟩
theorem at_map {α : Type} {f : α → PV} {L : List α} {i : Nat} {x : α} (h : L[i]? = some x) : (L.map f)[i]? = some (f x) := by simp [h]
theorem ld {cs : List PV} {j q : Nat} {v : PV} (h : cs[j]? = some v) (hq : q = j) : (cs.drop q)[0]? = some v := by
  subst hq
  rw [List.getElem?_drop, Nat.add_zero]
  exact h
end Go.PI
