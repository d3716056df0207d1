/- Own work of the verifier: PvCode PiRng PiCarry PiTrim PiSettle. -/
import Derived.Test.YtgmhmahdmbdngaaGreatDoorGvAM
import Derived.Test.YtgmhmahdmbdngaaGreatDoorGvAL
set_option linter.all false
set_option linter.deprecated false
namespace Go.PI
structure PSt where
 T : List PV
 σ : List StB
 k : Nat
def seqW (N : (Ex -> PSt -> Prop) -> PSt -> Prop) (Q : Ex -> PSt -> Prop) : Ex -> PSt -> Prop
 | .normal, s => N Q s
 | .exit i, s => Q (.exit i) s
 | .goto l, s => Q (.goto l) s
 | .ret, s => Q .ret s
def blockW (id : Nat) (Q : Ex -> PSt -> Prop) : Ex -> PSt -> Prop
 | .normal, s => Q .normal s
 | .exit i, s => match Nat.beq i id with
  | true => Q .normal s
  | false => Q (.exit i) s
 | .goto l, s => Q (.goto l) s
 | .ret, s => Q .ret s
def FrzS (s s0 : PSt) : Prop := ∀ (H : Heap) (W : Nat -> Prop) (β : List Nat) (H0 : Heap) (W0 : Nat -> Prop) (c : Nat) (T' : List AV), Sto H0 W0 c s.σ s.k W β H -> All2 (RelV H W β) s.T T' -> ∃ W2, Ext W β H W2 β H /\ Sto H0 W0 c s0.σ s0.k W2 β H /\ All2 (RelV H W2 β) s0.T T'
def CI (I : Nat -> PSt -> Prop) (m : Nat) (s : PSt) : Prop := ∃ s0, FrzS s s0 /\ I m s0
theorem ci {I : Nat -> PSt -> Prop} {m : Nat} {s : PSt} (h : I m s) : CI I m s := ⟨s, fun _ W _ _ _ _ _ a b => ⟨W, Ext.refl _ _ _, a, b⟩, h⟩
theorem frzS_tmp {T : List PV} {σ : List StB} {k i : Nat} {s0 : PSt} {v : PV} (hv : T[i]? = some v) (h : frzAK σ v fun p σ' => s0 = ⟨T.set i p, σ', k⟩) : FrzS ⟨T, σ, k⟩ s0 := by
 intro H W β H0 W0 c T' I hr
 obtain ⟨a, h1, h2⟩ := hr.get hv
 obtain ⟨p, σ', W', f, r, rfl⟩ := frzAK_ok h I h2
 refine ⟨W', f.1, f.2.1, ?_⟩
 have := (RelVs.ext f.1 hr).set (RelV.clo (β := β) r) i
 have e : T'.set i a = T' := by
  apply List.ext_getElem?
  intro j
  by_cases hj : j = i
  ·subst hj
   rw [List.getElem?_set_self (List.getElem?_eq_some_iff.1 h1).1, h1]
  ·rw [List.getElem?_set_ne (Ne.symm hj)]
 rw [e] at this
 exact this
def loopW (I : Nat -> PSt -> Prop) (m : Nat) (Q : Ex -> PSt -> Prop) : Ex -> PSt -> Prop
 | .normal, s => ∃ m', m' < m /\ CI I m' s
 | .exit i, s => Q (.exit i) s
 | .goto l, s => Q (.goto l) s
 | .ret, s => Q .ret s
def wC (O : Opn) (C : Ctx) (c : Nat) : Code -> PSt -> (Ex -> PSt -> Prop) -> Prop
 | .skip, s, Q => Q .normal s
 | .label _, s, Q => Q .normal s
 | .seq a b, s, Q => wC O C c a s (seqW (fun Q s' => wC O C c b s' Q) Q)
 | .cond x a b, ⟨T, σ, k⟩, Q => popdK T x fun x => match x with
  | .bool true => wC O C c a ⟨T, σ, k⟩ Q
  | .bool false => wC O C c b ⟨T, σ, k⟩ Q
  | _ => False
 | .block id b, s, Q => wC O C c b s (blockW id Q)
 | .loop b, s, Q => ∃ I : Nat -> PSt -> Prop, (∃ m, CI I m s) /\ ∀ m s, I m s -> wC O C c b s (loopW I m Q)
 | .exit i, s, Q => Q (.exit i) s
 | .goto l, s, Q => Q (.goto l) s
 | .ret, s, Q => Q .ret s
 | .region _ ops draw, ⟨T, σ, k⟩, Q => match draw with
  | true => growS6 C T σ ops.toList = true /\ wOps O C c true ops.toList ops.toList T σ k fun T σ k => Q .normal ⟨T, σ, k⟩
  | false => wOps O C c false ops.toList ops.toList T σ k fun T σ k => Q .normal ⟨T, σ, k⟩
 | .rangeFunc _ _ _ _, _, _ => False
 | .scope _, _, _ => False
 | .refuse _, _, _ => False
section
variable {O : Opn} {C : Ctx} {H0 : Heap} {W0 : Nat -> Prop} {c : Nat} {Wr : Nat -> Prop} {βr : List Nat} {Hr : Heap}
def SR (Wr : Nat -> Prop) (βr : List Nat) (Hr H0 : Heap) (W0 : Nat -> Prop) (c : Nat) (s : PSt) (s' : St) : Prop := s'.D = [] /\ ∃ W β, Ext Wr βr Hr W β s'.H /\ Sto H0 W0 c s.σ s.k W β s'.H /\ All2 (RelV s'.H W β) s.T s'.T
theorem FrzS.sr {s s0 : PSt} {s' : St} (f : FrzS s s0) (r : SR Wr βr Hr H0 W0 c s s') : SR Wr βr Hr H0 W0 c s0 s' := by
 obtain ⟨hd, W, β, E, I, hr⟩ := r
 obtain ⟨W2, E2, I2, hr2⟩ := f _ _ _ _ _ _ _ I hr
 exact ⟨hd, W2, β, E.trans E2, I2, hr2⟩
theorem wC_ok {rd : Option Nat} : ∀ {code : Code} {s : PSt} {Q : Ex -> PSt -> Prop} {s' : St}, wC O C c code s Q -> SR Wr βr Hr H0 W0 c s s' -> Runs C rd code s' fun e s2' => ∃ s2, SR Wr βr Hr H0 W0 c s2 s2' /\ Q e s2
 | .skip, s, Q, s', h, r => ⟨1, _, _, rfl, s, r, h⟩
 | .label _, s, Q, s', h, r => ⟨1, _, _, rfl, s, r, h⟩
 | .exit _, s, Q, s', h, r => ⟨1, _, _, rfl, s, r, h⟩
 | .goto _, s, Q, s', h, r => ⟨1, _, _, rfl, s, r, h⟩
 | .ret, s, Q, s', h, r => ⟨1, _, _, rfl, s, r, h⟩
 | .scope _, s, Q, s', h, r => h.elim
 | .refuse _, s, Q, s', h, r => h.elim
 | .rangeFunc _ _ _ _, s, Q, s', h, r => h.elim
 | .seq a b, s, Q, s', h, r => by
  obtain ⟨n, e, t, h1, s2, r2, h2⟩ := wC_ok (rd := rd) (code := a) h r
  by_cases he : e = .normal
  ·subst he
   obtain ⟨m, e2, t2, h3, h4⟩ := wC_ok (rd := rd) (code := b) h2 r2
   refine ⟨max n m + 1, e2, t2, ?_, h4⟩
   simp only [ev, evF, ev_mono (Nat.le_max_left n m) _ _ _ _ h1]
   exact ev_mono (Nat.le_max_right n m) _ _ _ _ h3
  ·refine ⟨n + 1, e, t, ?_, s2, r2, ?_⟩
   ·simp only [ev, evF, h1]
    cases e <;> first | rfl | exact absurd rfl he
   ·cases e <;> first | exact h2 | exact absurd rfl he
 | .cond x a b, ⟨T, σ, k⟩, Q, s', h, r => by
  obtain ⟨p, h1, h2⟩ := popdK_ok (show popdK T x _ from h)
  obtain ⟨hd, W, β, E0, I, hr⟩ := r
  obtain ⟨v, g1, g2⟩ := pOp_rel h1 (TR_of hr x)
  split at h2
  ·obtain ⟨n, e, t, h3, h4⟩ := wC_ok (rd := rd) (code := a) h2 ⟨hd, W, β, E0, I, hr⟩
   rw [g2.bool_inv] at g1
   exact ⟨n + 1, e, t, by simp only [ev, evF, g1]; exact h3, h4⟩
  ·obtain ⟨n, e, t, h3, h4⟩ := wC_ok (rd := rd) (code := b) h2 ⟨hd, W, β, E0, I, hr⟩
   rw [g2.bool_inv] at g1
   exact ⟨n + 1, e, t, by simp only [ev, evF, g1]; exact h3, h4⟩
  ·exact h2.elim
 | .block id b, s, Q, s', h, r => by
  obtain ⟨n, e, t, h1, s2, r2, h2⟩ := wC_ok (rd := rd) (code := b) h r
  cases e with
  | exit i =>
   by_cases hi : i = id
   ·subst hi
    refine ⟨n + 1, .normal, t, by simp only [ev, evF, h1, if_true], s2, r2, ?_⟩
    simpa [blockW] using h2
   ·refine ⟨n + 1, .exit i, t, by simp only [ev, evF, h1, if_neg hi], s2, r2, ?_⟩
    have hf : Nat.beq i id = false := by
     rw [Bool.eq_false_iff]; exact fun hh => hi (Nat.eq_of_beq_eq_true hh)
    simpa [blockW, hf] using h2
  | normal => exact ⟨n + 1, .normal, t, by simp only [ev, evF, h1], s2, r2, h2⟩
  | goto l => exact ⟨n + 1, .goto l, t, by simp only [ev, evF, h1], s2, r2, h2⟩
  | ret => exact ⟨n + 1, .ret, t, by simp only [ev, evF, h1], s2, r2, h2⟩
 | .loop b, s, Q, s', h, r => by
  obtain ⟨I, ⟨m, s0, hf0, hI⟩, hstep⟩ := h
  have key : ∀ m s s', I m s -> SR Wr βr Hr H0 W0 c s s' -> ∃ n k e t, loopF (ev C n) rd b k s' = some (e, t) /\ ∃ s2, SR Wr βr Hr H0 W0 c s2 t /\ Q e s2 := by
   intro m
   induction m using Nat.strongRecOn with
   | ind m ih =>
    intro s s' hs r
    obtain ⟨n, e, t, h1, s2, r2, h2⟩ := wC_ok (rd := rd) (code := b) (hstep m s hs) r
    by_cases he : e = .normal
    ·subst he
     obtain ⟨m', hm, s3, hf, hI'⟩ := h2
     obtain ⟨n2, k2, e2, t2, h3, h4⟩ := ih m' hm s3 t hI' (hf.sr r2)
     refine ⟨max n n2, k2 + 1, e2, t2, ?_, h4⟩
     unfold loopF
     rw [ev_mono (Nat.le_max_left n n2) _ _ _ _ h1]
     exact loopF_mono (ev_mono (Nat.le_max_right n n2)) (Nat.le_refl _) h3
    ·refine ⟨n, 1, e, t, ?_, s2, r2, ?_⟩
     ·unfold loopF
      rw [h1]
      cases e <;> first | rfl | exact absurd rfl he
     ·cases e <;> first | exact h2 | exact absurd rfl he
  obtain ⟨n, k, e, t, h1, h2⟩ := key m s0 s' hI (hf0.sr r)
  refine ⟨max n k + 1, e, t, ?_, h2⟩
  simp only [ev, evF]
  exact loopF_mono (ev_mono (Nat.le_max_left n k)) (Nat.le_max_right n k) h1
 | .region id ops draw, ⟨T, σ, k⟩, Q, s', h, r => by
  unfold wC at h
  obtain ⟨T', H, D⟩ := s'
  obtain ⟨hd, W, β, E0, I, hr⟩ := r
  simp only at hd I hr
  subst hd
  split at h
  ·obtain ⟨n, tr, T2, H2, h1, h2, h3, T3, σ2, k2, W2, β2, E, I2, h4, h5⟩ := open_ok6 h.1 h.2 I hr
   exact ⟨n + 1, .normal, ⟨T2, H2, []⟩, by simp only [ev, evF, h1, h3, h2, if_true], ⟨T3, σ2, k2⟩, ⟨rfl, W2, β2, E0.trans E, I2, h4⟩, h5⟩
  ·obtain ⟨n, T2, H2, h1, T3, σ2, k2, W2, β2, E, I2, h4, h5⟩ := wOps_ok h I hr
   exact ⟨n + 1, .normal, ⟨T2, H2, []⟩, by simp [ev, evF, h1], ⟨T3, σ2, k2⟩, ⟨rfl, W2, β2, E0.trans E, I2, h4⟩, h5⟩
/-! ### Where a body ends -/
def presK (C : Ctx) (T : List PV) (σ : List StB) : List ResultVar -> (List PV -> Prop) -> Prop
 | [], K => K []
 | .tmp t :: r, K => pgetK T t fun v => presK C T σ r fun vs => K (v :: vs)
 | .cell a t :: r, K => pgetK T a fun p => ∃ v, ploadE C σ t p = some v /\ presK C T σ r fun vs => K (v :: vs)
structure EndK (σ : List StB) (v : PV) (Q : PV -> Prop) : Prop where
 out : ∃ js, sealsK σ js fun σ => frzAK σ v fun r _ => Q r
structure EndsK (σ : List StB) (vs : List PV) (Q : PV -> Prop) : Prop where
 out : ∃ js, sealsK σ js fun σ => frzAsK σ vs fun rs _ => Q (.tup rs)
def wEnd (C : Ctx) (rs : List ResultVar) (Q : PV -> Prop) (e : Ex) (s : PSt) : Prop :=
 match e with
 | .exit _ => False
 | .goto _ => False
 | _ => presK C s.T s.σ rs fun vs => match vs with
  | [v] => EndK s.σ v Q
  | vs => EndsK s.σ vs Q
structure EndFK (σ : List StB) (v : PV) (Q : TypeId -> Nat -> Nat -> Nat -> List PV -> Prop) : Prop where
 out : ∃ i n cp z ty cs, v = .own i 0 n cp z /\ σ[i]? = some (.live ty cs) /\ Q ty n cp z cs
def wEndF (C : Ctx) (rs : List ResultVar) (Q : TypeId -> Nat -> Nat -> Nat -> List PV -> Prop) (e : Ex) (s : PSt) : Prop :=
 match e with
 | .exit _ => False
 | .goto _ => False
 | _ => presK C s.T s.σ rs fun vs => match vs with
  | [v] => EndFK s.σ v Q
  | _ => False
theorem getD_rel {H : Heap} {W : Nat -> Prop} {β : List Nat} {T : List PV} {T' : List AV} (h : All2 (RelV H W β) T T') (t : Nat) : RelV H W β (T.getD t undefP) (T'.getD t undefA) := TR_of h (.tmp t)
theorem presK_ok {H : Heap} {W : Nat -> Prop} {β : List Nat} {T : List PV} {T' : List AV} {σ : List StB} {k : Nat} (I : Sto H0 W0 c σ k W β H) (hr : All2 (RelV H W β) T T') : ∀ {rs : List ResultVar} {K : List PV -> Prop}, presK C T σ rs K →
  ∃ vs us, K vs /\ resultsE C T' H rs = some us /\ All2 (RelV H W β) vs us
 | [], K, h => ⟨[], [], h, rfl, .nil⟩
 | .tmp t :: r, K, h => by
  have h1 := pgetK_ok (show pgetK T t _ from h)
  obtain ⟨vs, us, h2, h3, h4⟩ := presK_ok I hr h1
  exact ⟨_, _, h2, by simp only [resultsE, h3], .cons (getD_rel hr t) h4⟩
 | .cell a t :: r, K, h => by
  have h1 := pgetK_ok (show pgetK T a _ from h)
  obtain ⟨v, h0, h1⟩ := h1
  obtain ⟨vs, us, h2, h3, h4⟩ := presK_ok I hr h1
  obtain ⟨b, o, u, -, -, g1, g2⟩ := load_ok I h0 (getD_rel hr a)
  exact ⟨_, _, h2, by simp only [resultsE, g1, h3], .cons g2 h4⟩
theorem start_rel {H : Heap} {ps : List PV} {avs : List AV} {n : Nat} (hw : ∀ b, W0 b -> b < H.n) (hr : All2 (RelV H W0 []) ps avs) (hn : H.n + c < lim) :
  SR W0 [] H H W0 c ⟨ps ++ List.replicate (n - ps.length) undefP, [], 0⟩ ⟨avs ++ List.replicate (n - avs.length) undefA, H, []⟩ := by
 refine ⟨rfl, W0, [], Ext.refl _ _ _, ⟨hn, Nat.zero_le _, Nat.le_refl _, Nat.le_refl _, fun _ _ => rfl, hw, fun _ h => h, fun _ h => .inl h, rfl, fun i b h => by simp at h, fun i t l b h => by simp at h, fun i t l b h => by simp at h, fun i j b h => by simp at h, fun i t l b h => by simp at h⟩, ?_⟩
 rw [hr.length]
 exact All2.append hr (All2.replicate undef_rel _)
theorem cbO_of (O : Opn) {f : FuncId} {fi : FI} {ps : List PV} {c : Nat} {Q : PV -> Prop} (hs : C.sum f = none) (hf : C.fn f = some fi)
  (h : wC O C c fi.body ⟨ps ++ List.replicate (fi.ntmps - ps.length) undefP, [], 0⟩ (wEnd C fi.results Q)) : Cb C f ps c Q := by
 intro H W avs hw hr hn
 obtain ⟨n, e, t, h1, s2, ⟨hD, W2, β2, -, I, hr2⟩, h2⟩ := wC_ok (rd := none) h (start_rel hw hr hn)
 obtain ⟨T', H2, D'⟩ := t
 simp only at hD I hr2
 subst hD
 have hb : sumE C f avs H = none := by simp [sumE, hs]
 have key : (e = .normal ∨ e = .ret) /\ ∃ us v, resultsE C T' H2 fi.results = some us /\ (match us with | [v] => v | us => .tup us) = v /\ ∃ r W3, Q r /\ RelC H2 W3 r v /\ ∀ A, W A -> W3 A := by
  have h3 : (e = .normal ∨ e = .ret) /\ presK C s2.T s2.σ fi.results fun vs => match vs with
   | [v] => EndK s2.σ v Q
   | vs => EndsK s2.σ vs Q := by
   cases e with
   | normal => exact ⟨.inl rfl, h2⟩
   | ret => exact ⟨.inr rfl, h2⟩
   | exit i => exact h2.elim
   | goto i => exact h2.elim
  refine ⟨h3.1, ?_⟩
  obtain ⟨vs, us, h4, h5, h6⟩ := presK_ok I hr2 h3.2
  refine ⟨us, _, h5, rfl, ?_⟩
  split at h4
  ·cases h6 with
   | cons a b =>
    cases b
    obtain ⟨js, h4⟩ := h4.out
    obtain ⟨σ1, W1, E1, I1, -, h4⟩ := sealsK_ok h4 I
    obtain ⟨r, σ3, W3, f3, r3, q3⟩ := frzAK_ok h4 I1 (a.ext E1)
    exact ⟨r, W3, q3, r3, f3.2.1.w0⟩
  ·rename_i hne
   obtain ⟨js, h4⟩ := h4.out
   obtain ⟨σ1, W1, E1, I1, -, h4⟩ := sealsK_ok h4 I
   obtain ⟨rs, σ3, W3, f3, r3, q3⟩ := frzAsK_ok h4 I1 (RelVs.ext E1 h6)
   refine ⟨.tup rs, W3, q3, ?_, f3.2.1.w0⟩
   have hl := h6.length
   cases us with
   | nil => exact .tup r3
   | cons u us => cases us with
    | nil =>
     cases vs with
     | nil => simp at hl
     | cons p vs => cases vs with
      | nil => exact absurd rfl (hne p)
      | cons _ _ => simp at hl
    | cons _ _ => exact .tup r3
 obtain ⟨he, us, v, h3, h4, r, W3, h5, h6, h7⟩ := key
 refine ⟨n, v, H2, ?_, r, h5, h6.mono (fun _ _ _ => rfl) (fun A _ h => h7 A h), I.lo, by have := I.hi; have := I.kc; omega, I.keep⟩
 unfold call callF callB
 rw [hb]
 simp only [hf, h1]
 have hsm : shutMarks [] H2 = some H2 := rfl
 rcases he with rfl | rfl
 ·simp only [hsm, h3]
  cases us with
  | nil => rw [← h4]
  | cons u us => cases us with
   | nil => rw [← h4]
   | cons _ _ => rw [← h4]
 ·simp only [hsm, h3]
  cases us with
  | nil => rw [← h4]
  | cons u us => cases us with
   | nil => rw [← h4]
   | cons _ _ => rw [← h4]
theorem cb_of {f : FuncId} {fi : FI} {ps : List PV} {c : Nat} {Q : PV -> Prop} (hs : C.sum f = none) (hf : C.fn f = some fi)
  (h : wC Opn.no C c fi.body ⟨ps ++ List.replicate (fi.ntmps - ps.length) undefP, [], 0⟩ (wEnd C fi.results Q)) : Cb C f ps c Q := cbO_of _ hs hf h
theorem ctO_of (O : Opn) {f : FuncId} {fi : FI} {ps : List PV} {c : Nat} {Q : PV -> Prop} (hs : C.sum f = none) (hf : C.fn f = some fi)
  (h : wC O C c fi.body ⟨ps ++ List.replicate (fi.ntmps - ps.length) undefP, [], 0⟩ (wEnd C fi.results Q)) : Ct C f ps c Q := (cbO_of O hs hf h).ct
theorem ct_of {f : FuncId} {fi : FI} {ps : List PV} {c : Nat} {Q : PV -> Prop} (hs : C.sum f = none) (hf : C.fn f = some fi)
  (h : wC Opn.no C c fi.body ⟨ps ++ List.replicate (fi.ntmps - ps.length) undefP, [], 0⟩ (wEnd C fi.results Q)) : Ct C f ps c Q := (cb_of hs hf h).ct
def oneP : List PV -> PV
 | [v] => v
 | vs => .tup vs
structure EndMK (σ : List StB) (k m : Nat) (vs : List PV) (Q : PV -> List StB -> Prop) : Prop where
 out : ∃ js, sealsK σ js fun σ1 => k <= m /\ ∃ ms, frzmK σ1 ms vs fun vs' σ2 => Q (oneP vs') σ2
def wEndM (C : Ctx) (rs : List ResultVar) (m : Nat) (Q : PV -> List StB -> Prop) (e : Ex) (s : PSt) : Prop :=
 match e with
 | .exit _ => False
 | .goto _ => False
 | _ => presK C s.T s.σ rs fun vs => EndMK s.σ s.k m vs Q
theorem cm_of (O : Opn) {f : FuncId} {fi : FI} {ps : List PV} {σ : List StB} {d : Nat} {Q : PV -> List StB -> Prop} (hs : C.sum f = none) (hf : C.fn f = some fi)
  (h : ∀ c k, k + d <= c -> wC O C c fi.body ⟨ps ++ List.replicate (fi.ntmps - ps.length) undefP, σ, k⟩ (wEndM C fi.results (k + d) Q)) : Cm C f ps σ d Q := by
 intro H0 W0 c k W β H avs I hc hr
 have hst : SR W β H H0 W0 c ⟨ps ++ List.replicate (fi.ntmps - ps.length) undefP, σ, k⟩ ⟨avs ++ List.replicate (fi.ntmps - avs.length) undefA, H, []⟩ := by
  refine ⟨rfl, W, β, Ext.refl _ _ _, I, ?_⟩
  rw [hr.length]
  exact All2.append hr (All2.replicate undef_rel _)
 obtain ⟨n, e, t, h1, s2, ⟨hD, W2, β2, E2, I2, hr2⟩, h2⟩ := wC_ok (rd := none) (h c k hc) hst
 obtain ⟨T', H2, D'⟩ := t
 simp only at hD I2 hr2 E2
 subst hD
 have hb : sumE C f avs H = none := by simp [sumE, hs]
 have h3 : (e = .normal ∨ e = .ret) /\ presK C s2.T s2.σ fi.results fun vs => EndMK s2.σ s2.k (k + d) vs Q := by
  cases e with
  | normal => exact ⟨.inl rfl, h2⟩
  | ret => exact ⟨.inr rfl, h2⟩
  | exit i => exact h2.elim
  | goto i => exact h2.elim
 obtain ⟨vs, us, h4, h5, h6⟩ := presK_ok I2 hr2 h3.2
 obtain ⟨js, h4⟩ := h4.out
 obtain ⟨σ3, W3, E3, I3, -, hk, ms, h4⟩ := sealsK_ok h4 I2
 obtain ⟨vs', σ4, W4, f4, r4, h4⟩ := frzmK_ok h4 I3 (RelVs.ext E3 h6)
 have hv : RelV H2 W4 β2 (oneP vs') (match us with | [v] => v | us => .tup us) := by
  have hl := r4.length
  cases r4 with
  | nil => exact .tup .nil
  | cons a b => cases b with
   | nil => exact a
   | cons b1 b2 => exact .tup (.cons a (.cons b1 b2))
 refine ⟨n, _, H2, ?_, _, σ4, s2.k, W4, β2, (E2.trans E3).trans f4.1, f4.2.1, hv, h4, hk⟩
 unfold call callF callB
 rw [hb]
 simp only [hf, h1]
 have hsm : shutMarks [] H2 = some H2 := rfl
 rcases h3.1 with rfl | rfl
 ·simp only [hsm, h5]
  cases us with
  | nil => rfl
  | cons u us => cases us with
   | nil => rfl
   | cons _ _ => rfl
 ·simp only [hsm, h5]
  cases us with
  | nil => rfl
  | cons u us => cases us with
   | nil => rfl
   | cons _ _ => rfl
theorem cf_of {f : FuncId} {fi : FI} {ps : List PV} {c : Nat} {Q : TypeId -> Nat -> Nat -> Nat -> List PV -> Prop} (hs : C.sum f = none) (hf : C.fn f = some fi)
  (h : wC Opn.no C c fi.body ⟨ps ++ List.replicate (fi.ntmps - ps.length) undefP, [], 0⟩ (wEndF C fi.results Q)) : Cfr C f ps c Q := by
 intro H W avs hw hr hn
 obtain ⟨n, e, t, h1, s2, ⟨hD, W2, β2, -, I, hr2⟩, h2⟩ := wC_ok (rd := none) h (start_rel hw (RelVs.clo hr) hn)
 obtain ⟨T', H2, D'⟩ := t
 simp only at hD I hr2
 subst hD
 have hb : sumE C f avs H = none := by simp [sumE, hs]
 have h3 : (e = .normal ∨ e = .ret) /\ presK C s2.T s2.σ fi.results fun vs => match vs with
  | [v] => EndFK s2.σ v Q
  | _ => False := by
  cases e with
  | normal => exact ⟨.inl rfl, h2⟩
  | ret => exact ⟨.inr rfl, h2⟩
  | exit i => exact h2.elim
  | goto i => exact h2.elim
 obtain ⟨vs, us, h4, h5, h6⟩ := presK_ok I hr2 h3.2
 split at h4
 ·rename_i v
  obtain ⟨i, m, cp, z, ty, cs, rfl, hi, h4⟩ := h4.out
  cases h6 with
  | cons a b' =>
   cases b'
   obtain ⟨b, hβ, rfl⟩ := a.own_inv
   obtain ⟨hW, acs, g1, g2⟩ := I.live i ty cs b hi hβ
   have hbb := I.bl i b hβ
   refine ⟨n, _, H2, ?_, ty, m, cp, z, cs, b, acs, h4, rfl, hbb.1, hbb.2, g1, All2.mono' (fun _ _ h => h.mono (fun _ _ _ => rfl) (fun A _ h => ?_)) g2, I.lo, by have := I.hi; have := I.kc; omega, I.keep⟩
   ·unfold call callF callB
    rw [hb]
    simp only [hf, h1]
    have hsm : shutMarks [] H2 = some H2 := rfl
    rcases h3.1 with rfl | rfl
    ·simp only [hsm, h5]
    ·simp only [hsm, h5]
   ·rcases h with h | rfl
    ·exact I.w0 A h
    ·exact hW
 ·exact h4.elim
end
end Go.PI
open Go.Proofs
namespace Go.PI
open IM
theorem range_of {C : Ctx} {f : Operand} {ps : Array Tmp} {assign body : Code} {T : List AV} {H : Heap} {D : List Nat} {Q : Ex -> St -> Prop} {g : FuncId} {first caps : List AV}
  (hn : H.n + 1 < lim) (hf : opd T f = some (.fn g first caps)) (hg : (C.fn g).isNone = false)
  (h : Cl C g (first ++ [.yld (H.n + 1)] ++ caps) ((H.push .dfr).push (.loop { state := .ready, pending := none, tmps := T, params := ps, assign := assign, body := body, dfr := H.n })) fun _ H3 =>
   ∃ lp, H3.get (H.n + 1) = .loop lp /\ lp.state ≠ .busy ∧
    match lp.pending with
    | none => Q .normal ⟨T, H3.set (H.n + 1) .dead, H.n :: D⟩
    | some c => Runs C none c ⟨T, H3.set (H.n + 1) .dead, H.n :: D⟩ Q) :
  ∃ n e s', rangeF C (ev C n) none f ps assign body ⟨T, H, D⟩ = some (e, s') /\ Q e s' := by
 obtain ⟨n, v, H3, h1, lp, h2, h3, h4⟩ := h
 have hp : (H.push .dfr).n = H.n + 1 := rfl
 unfold call at h1
 cases hpend : lp.pending with
 | none =>
  rw [hpend] at h4
  refine ⟨n, _, _, ?_, h4⟩
  simp only [rangeF, hf, hg, startE, hp, h1, h2, hpend, if_neg h3]
  rw [if_neg (by omega)]
  simp
 | some c =>
  rw [hpend] at h4
  obtain ⟨m, e, s', g1, g2⟩ := h4
  refine ⟨max n m, e, s', ?_, g2⟩
  have h1' := callF_mono (C := C) (ev_mono (Nat.le_max_left n m)) h1
  simp only [rangeF, hf, hg, startE, hp, h1', h2, hpend, if_neg h3]
  rw [if_neg (by omega)]
  simpa using ev_mono (Nat.le_max_right n m) _ _ _ _ g1
theorem yield_of {C : Ctx} {H : Heap} {K : AV -> Heap -> Prop} {l : Nat} {us : List AV} {L : ALoop}
  (hL : H.get l = .loop L) (hlen : us.length = L.params.size) (hst : L.state = .ready)
  (h : Runs C (some l) L.assign ⟨foldPar L.tmps L.params.toList us, H, []⟩ fun e s1 => e = .normal /\ s1.D = [] /\ ∃ L1, s1.H.get l = .loop L1 /\ L1.state = .ready ∧
   Runs C (some l) L.body ⟨s1.T, s1.H.set l (.loop { L1 with state := .busy }), []⟩ fun e s2 => s2.D = [] /\ ∃ L2, s2.H.get l = .loop L2 ∧
    K (.bool e.jump.isNone) (s2.H.set l (.loop { L2 with state := if e.jump.isNone then .ready else .done, pending := e.jump }))) :
  ∃ n v H', yieldF (ev C n) l us H = some (v, H') /\ K v H' := by
 obtain ⟨n1, e1, ⟨T1, H1, D1⟩, h1, rfl, rfl, L1, h2, h3, n2, e2, ⟨T2, H2, D2⟩, h4, h5, L2, h6, h7⟩ := h
 simp only at h2 h4 h5 h6 h7
 subst h5
 refine ⟨max n1 n2, _, _, ?_, h7⟩
 simp only [yieldF, hL, hlen, hst]
 rw [if_pos ⟨trivial, trivial⟩]
 rw [ev_mono (Nat.le_max_left n1 n2) _ _ _ _ h1]
 simp only [h2, h3]
 rw [ev_mono (Nat.le_max_right n1 n2) _ _ _ _ h4]
 simp only [h6, if_true]
/-! ### slices.Backward -/
set_option maxRecDepth 10000
set_option maxHeartbeats 1000000
theorem fn228 : ctx.fn 228 = some c228 := by kernel_rfl
theorem fn182 : ctx.fn 182 = some c182 := by kernel_rfl
variable (S : FuncId -> Option (List AV -> Heap -> Option (AV × Heap)))
theorem backward_run (h182 : S 182 = none) {H : Heap} {v : AV} (hn : H.n + 2 < lim) : Cl (ctx.plus S) 182 [v] H fun r H' => r = .fn 228 [] [.ptr H.n 0] /\ H' = H.push (.cells true 22 v.cells) := by
 refine cl_of h182 fn182 ?_
 refine ⟨by omega, ?_⟩
 refine ⟨_, rfl, ?_⟩
 exact ⟨rfl, rfl⟩
theorem back_run (h228 : S 228 = none) {H0 : Heap} {l b : Nat} {v : AV} {xs : List Int} (J : Nat -> Heap -> Prop) (R : Heap -> Prop) (hlen : xs.length <= 1073741824)
  (hJ : ∀ k H, J k H -> loadE (ctx.plus S) 22 (.ptr b 0) H = some v /\ Sl H v xs)
  (hy : ∀ k e H, J (k + 1) H -> xs[k]? = some e -> ∃ n v' H', yieldF (ev (ctx.plus S) n) l [iv k, iv e] H = some (v', H') /\ ((v' = .bool true /\ J k H') ∨ (v' = .bool false /\ R H')))
  (hend : ∀ H, J 0 H -> R H) (h : J xs.length H0) : Cl (ctx.plus S) 228 [.yld l, .ptr b 0] H0 fun _ H' => R H' := by
 refine cl_of h228 fn228 ?_
 have hT : (ctx.plus S).ty = tget := rfl
 obtain ⟨hl, hs⟩ := hJ _ _ h
 refine ⟨v, hl, ?_⟩
 refine ⟨_, len_sl hT (v := v) rfl hs, ?_⟩
 refine ⟨⟨by omega, by omega⟩, ?_⟩
 refine ⟨fun m s => ∃ (k : Nat) (n : Int) (H' : Heap) (j2 j4 j5 j6 j7 j8 j9 j10 j11 j12 j13 j14 j15 j16 j17 j18 : AV),
  s = ⟨[.yld l, .ptr b 0, j2, iv n, j4, j5, j6, j7, j8, j9, j10, j11, j12, j13, j14, j15, j16, j17, j18], H', []⟩ /\ m = k /\ n = (k : Int) - 1 /\ k <= xs.length /\ J k H', ⟨xs.length, ?_⟩, ?_⟩
 ·exact ⟨xs.length, _, H0, _, _, _, _, _, _, _, _, _, _, _, _, _, _, _, _, rfl, rfl, rfl, Nat.le_refl _, h⟩
 ·rintro m s ⟨k, n, H', j2, j4, j5, j6, j7, j8, j9, j10, j11, j12, j13, j14, j15, j16, j17, j18, rfl, hm, rfl, hk, hJk⟩
  refine ⟨fun hge => ?_, fun hlt => ?_⟩
  ·obtain ⟨k, rfl⟩ : ∃ j, k = j + 1 := ⟨k - 1, by omega⟩
   obtain ⟨hl', hs'⟩ := hJ _ _ hJk
   obtain ⟨e, he⟩ : ∃ e, xs[k]? = some e := ⟨xs[k]'(by omega), List.getElem?_eq_getElem _⟩
   have hk1 : ((k + 1 : Nat) : Int) - 1 = (k : Int) := by omega
   rw [hk1]
   refine ⟨v, hl', ?_⟩
   refine ⟨_, idx_sl hT (v := v) (n := (k : Int)) (k := k) rfl rfl hs' rfl (by omega), ?_⟩
   refine ⟨_, load_sl hT hs' he, ?_⟩
   obtain ⟨n, v', H2, hy1, hy2⟩ := hy k e H' hJk he
   refine ⟨n, v', H2, ?_, ?_⟩
   ·simp only [effE, opd, opds]
    exact hy1
   ·rcases hy2 with ⟨rfl, hJ2⟩ | ⟨rfl, hR⟩
    ·refine ⟨⟨by omega, by omega⟩, ?_⟩
     exact ⟨k, by omega, k, _, H2, _, _, _, _, _, _, _, _, _, _, _, _, _, _, _, _, rfl, rfl, rfl, by omega, hJ2⟩
    ·exact hR
  ·have h0 : k = 0 := by omega
   subst h0
   exact hend _ hJk
theorem range_back (h228 : S 228 = none) {f : Operand} {p q : Tmp} {assign body : Code} {T : List AV} {H1 : Heap} {D : List Nat} {Q : Ex -> St -> Prop} {b : Nat} {v : AV} {xs : List Int}
  (hn : H1.n + 2 < lim) (hf : opd T f = some (.fn 228 [] [.ptr b 0])) (hlen : xs.length <= 1073741824)
  (I : Nat -> Heap -> Prop)
  (hI : ∀ k H, I k H -> loadE (ctx.plus S) 22 (.ptr b 0) H = some v /\ Sl H v xs /\ H.n < lim /\ H1.n + 1 < H.n)
  (hfr : ∀ k H x H', I k H -> Upd H (H1.n + 1) x H' -> I k H')
  (h0 : ∀ H, H.n = H1.n + 2 -> (∀ A, A < H1.n -> H.get A = H1.get A) -> H.get H1.n = .dfr -> I xs.length H)
  (hstep : ∀ k e H L, I (k + 1) H -> xs[k]? = some e -> H.get (H1.n + 1) = .loop L →
   vC (ctx.plus S) (some (H1.n + 1)) assign ⟨(T.set p (iv k)).set q (iv e), H, []⟩ fun e1 s1 => e1 = .normal /\ s1.D = [] /\ s1.H = H /\ ∀ H' L', Upd H (H1.n + 1) (.loop L') H' →
    vC (ctx.plus S) (some (H1.n + 1)) body ⟨s1.T, H', []⟩ fun e2 s2 => s2.D = [] /\ s2.H.get (H1.n + 1) = .loop L' /\ (match e2 with
     | .normal => I k s2.H
     | .goto _ => False
     | e2 => s2.H.n < lim /\ H1.n + 1 < s2.H.n /\ ∀ H3, Upd s2.H (H1.n + 1) .dead H3 -> Q e2 ⟨T, H3, H1.n :: D⟩))
  (hend : ∀ H H3, I 0 H -> Upd H (H1.n + 1) .dead H3 -> Q .normal ⟨T, H3, H1.n :: D⟩) :
  ∃ n e s', rangeF (ctx.plus S) (ev (ctx.plus S) n) none f #[p, q] assign body ⟨T, H1, D⟩ = some (e, s') /\ Q e s' := by
 have hT : (ctx.plus S).ty = tget := rfl
 refine range_of (by omega) hf (by show (ctx.fn 228).isNone = false; rw [fn228]; rfl) ?_
 have hp1 := Heap.get_push (H := H1) (b := .dfr) (by omega)
 have hpn : (H1.push .dfr).n = H1.n + 1 := rfl
 have hp2 := Heap.get_push (H := H1.push .dfr) (b := .loop { state := .ready, pending := none, tmps := T, params := #[p, q], assign := assign, body := body, dfr := H1.n }) (by omega)
 have hpn2 : ((H1.push .dfr).push (.loop { state := .ready, pending := none, tmps := T, params := #[p, q], assign := assign, body := body, dfr := H1.n })).n = H1.n + 2 := rfl
 generalize hL0 : ({ state := .ready, pending := none, tmps := T, params := #[p, q], assign := assign, body := body, dfr := H1.n } : ALoop) = L0 at hp2 hpn2 ⊢
 generalize (H1.push .dfr).push (.loop L0) = H2 at hp2 hpn2 ⊢
 rw [hpn] at hp2
 refine (back_run S h228 (l := H1.n + 1) (b := b) (v := v) (xs := xs) (fun k H => I k H /\ H.get (H1.n + 1) = .loop L0)
  (fun H3 => ∃ lp, H3.get (H1.n + 1) = .loop lp /\ lp.state ≠ .busy /\ match lp.pending with
    | none => Q .normal ⟨T, H3.set (H1.n + 1) .dead, H1.n :: D⟩
    | some c => Runs (ctx.plus S) none c ⟨T, H3.set (H1.n + 1) .dead, H1.n :: D⟩ Q) hlen (fun k H h => ⟨(hI k H h.1).1, (hI k H h.1).2.1⟩) ?_ ?_ ?_).mono (fun _ _ h => h)
 ·rintro k e H ⟨hIk, hl⟩ he
  obtain ⟨-, -, hHn, hHl⟩ := hI _ _ hIk
  refine yield_of (K := fun v' H' => (v' = .bool true /\ I k H' /\ H'.get (H1.n + 1) = .loop L0) ∨ (v' = .bool false /\ ∃ lp, H'.get (H1.n + 1) = .loop lp /\ lp.state ≠ .busy /\ match lp.pending with
    | none => Q .normal ⟨T, H'.set (H1.n + 1) .dead, H1.n :: D⟩
    | some c => Runs (ctx.plus S) none c ⟨T, H'.set (H1.n + 1) .dead, H1.n :: D⟩ Q)) hl (by subst hL0; rfl) (by subst hL0; rfl) ?_
  have hs := hstep k e H L0 hIk he hl
  have h1 := vC_ok hs
  subst hL0
  refine h1.mono ?_
  rintro e1 ⟨T1, H1', D1⟩ ⟨rfl, rfl, rfl, h2⟩
  refine ⟨rfl, rfl, _, hl, rfl, ?_⟩
  have hU := upd_set (b := H1.n + 1) (x := .loop { state := .busy, pending := none, tmps := T, params := #[p, q], assign := assign, body := body, dfr := H1.n }) hHl hHn
  refine (vC_ok (h2 _ _ hU)).mono ?_
  rintro e2 ⟨T2, H2', D2⟩ ⟨rfl, h3, h4⟩
  refine ⟨rfl, _, h3, ?_⟩
  cases e2 with
  | normal =>
   obtain ⟨-, -, g1, g2⟩ := hI _ _ h4
   have hU2 := upd_set (b := H1.n + 1) (x := .loop { state := .ready, pending := none, tmps := T, params := #[p, q], assign := assign, body := body, dfr := H1.n }) g2 g1
   exact .inl ⟨rfl, hfr _ _ _ _ h4 hU2, hU2.at_⟩
  | goto g => exact h4.elim
  | exit i =>
   obtain ⟨g1, g2, g3⟩ := h4
   have hU2 := upd_set (b := H1.n + 1) (x := .loop { state := .done, pending := some (.exit i), tmps := T, params := #[p, q], assign := assign, body := body, dfr := H1.n }) g2 g1
   have hU3 := upd_set (b := H1.n + 1) (x := .dead) (by rw [hU2.n]; exact g2) (by rw [hU2.n]; exact g1)
   refine .inr ⟨rfl, _, hU2.at_, by simp, ?_⟩
   exact ⟨1, _, _, rfl, g3 _ (hU2.trans hU3)⟩
  | ret =>
   obtain ⟨g1, g2, g3⟩ := h4
   have hU2 := upd_set (b := H1.n + 1) (x := .loop { state := .done, pending := some .ret, tmps := T, params := #[p, q], assign := assign, body := body, dfr := H1.n }) g2 g1
   have hU3 := upd_set (b := H1.n + 1) (x := .dead) (by rw [hU2.n]; exact g2) (by rw [hU2.n]; exact g1)
   refine .inr ⟨rfl, _, hU2.at_, by simp, ?_⟩
   exact ⟨1, _, _, rfl, g3 _ (hU2.trans hU3)⟩
 ·rintro H ⟨hI0, hl⟩
  obtain ⟨-, -, g1, g2⟩ := hI _ _ hI0
  refine ⟨L0, hl, by subst hL0; simp, ?_⟩
  have hU3 := upd_set (b := H1.n + 1) (x := .dead) g2 g1
  subst hL0
  exact hend _ _ hI0 hU3
 ·refine ⟨h0 _ hpn2 (fun A hA => ?_) ?_, ?_⟩
  ·rw [hp2, if_neg (by omega), hp1, if_neg (by omega)]
  ·rw [hp2, if_neg (by omega), hp1, if_pos rfl]
  ·rw [hp2, if_pos rfl]
end Go.PI
open Go.Proofs
namespace Go.PI
open IM
theorem fn183 : ctx.fn 183 = some c183 := by kernel_rfl
theorem carryL_snoc (xs : List Int) (e : Int) : ∀ o, carryL o (xs ++ [e]) = carryL o xs ++ [(e.tmod 100000000 + carryO o xs).tmod 100000000] /\ carryO o (xs ++ [e]) = e.tdiv 100000000 + (e.tmod 100000000 + carryO o xs).tdiv 100000000 := by
 induction xs with
 | nil => intro o; simp [carryL, carryO]
 | cons x xs ih => intro o; simp only [List.cons_append, carryL, carryO, ih]; simp
theorem take_snoc {xs : List Int} {i : Nat} {x : Int} (h : xs[i]? = some x) : xs.take (i + 1) = xs.take i ++ [x] := by
 rw [List.take_add_one, h]; rfl
theorem drop_of_get {xs : List Int} {i : Nat} {x : Int} (h : xs[i]? = some x) : xs.drop i = x :: xs.drop (i + 1) := by
 obtain ⟨h1, h2⟩ := List.getElem?_eq_some_iff.1 h
 rw [List.drop_eq_getElem_cons h1, h2]
set_option maxRecDepth 10000
set_option maxHeartbeats 1000000
theorem carry_run (S : FuncId -> Option (List AV -> Heap -> Option (AV × Heap))) (hS : S 183 = none) {H : Heap} {v : AV} {b : Nat} {zs : List Int} {l : Nat} (hn : H.n < lim) (hlb : l <= 1073741824) (h : Ow H v b zs l) (hr : ∀ x ∈ zs.take l, In64 x) :
  Cl (ctx.plus S) 183 [v] H fun r H' => r = iv (carryO 0 (zs.take l)) /\ Upd H b (.cells true 3 (ints (carryL 0 (zs.take l) ++ zs.drop l))) H' := by
 refine cl_of hS fn183 ?_
 have hT : (ctx.plus S).ty = tget := rfl
 have hlen : (zs.take l).length = l := by have := h.2.1; simp; omega
 refine ⟨_, len_sl hT (v := v) rfl h.sl, ?_⟩
 rw [hlen]
 refine ⟨fun m s => ∃ (i : Nat) (n o : Int) (H' : Heap) (j1 j2 j4 j5 j6 j10 j11 j12 j13 j14 j15 j16 j17 j18 j19 j20 j21 j22 j23 j24 j25 j26 j27 j28 j29 : AV),
  s = ⟨[v, j1, j2, iv o, j4, j5, j6, v, iv l, iv n, j10, j11, j12, j13, j14, j15, j16, j17, j18, j19, j20, j21, j22, j23, j24, j25, j26, j27, j28, j29], H', []⟩ /\ m = l - i /\ n = i /\ o = carryO 0 (zs.take i) /\ i <= l ∧
  Upd H b (.cells true 3 (ints (carryL 0 (zs.take i) ++ zs.drop i))) H', ⟨l, ?_⟩, ?_⟩
 ·exact ⟨0, 0, 0, H, _, _, _, _, _, _, _, _, _, _, _, _, _, _, _, _, _, _, _, _, _, _, _, _, _, rfl, rfl, rfl, rfl, Nat.zero_le _, Upd.refl (by simpa [carryL] using h.1)⟩
 ·rintro m s ⟨i, n, o, H', j1, j2, j4, j5, j6, j10, j11, j12, j13, j14, j15, j16, j17, j18, j19, j20, j21, j22, j23, j24, j25, j26, j27, j28, j29, rfl, rfl, rfl, ho, hi, hU⟩
  have hlz := h.2.1
  refine ⟨fun hlt => ?_, fun hge => ?_⟩
  ·have hi' : i < l := by omega
   obtain ⟨e, he⟩ : ∃ e, zs[i]? = some e := ⟨zs[i]'(by omega), List.getElem?_eq_getElem _⟩
   have heB := hr e (List.mem_of_getElem? (i := i) (by rw [List.getElem?_take, if_pos hi']; exact he))
   have hO := carryO_small (zs.take i) (fun x hx => hr x (by rw [show zs.take i = (zs.take l).take i by rw [List.take_take, Nat.min_eq_left hi]] at hx; exact List.mem_of_mem_take hx)) 0 (by unfold OvB; omega)
   have hO' := ovB_next heB hO
   obtain ⟨s1, s2⟩ := carryL_snoc (zs.take i) e 0
   rw [← ho] at hO hO' s1 s2
   have hcl : (carryL 0 (zs.take i)).length = i := by rw [carry_length]; simp; omega
   have hOw : Ow H' v b (carryL 0 (zs.take i) ++ zs.drop i) l := h.keep hU.at_ (by simp [hcl]; omega)
   have hget : ((carryL 0 (zs.take i) ++ zs.drop i).take l)[i]? = some e := by
    rw [List.getElem?_take, if_pos hi', List.getElem?_append_right (by omega), hcl]
    simpa using he
   have hsl := hOw.sl
   have hlen' : ((carryL 0 (zs.take i) ++ zs.drop i).take l).length = l := by simp [hcl]; omega
   unfold OvB at hO hO'
   have t1 := tq e
   have t2 := tq (e.tmod 100000000 + o)
   refine ⟨_, idx_sl hT (v := v) (n := i) rfl rfl hsl rfl (by omega), ?_⟩
   refine ⟨_, load_sl hT hsl hget, ?_⟩
   refine ⟨by decide, ?_⟩
   refine ⟨⟨by omega, by omega⟩, ?_⟩
   refine ⟨by decide, ?_⟩
   refine ⟨_, idx_sl hT (v := v) (n := i) rfl rfl hsl rfl (by omega), ?_⟩
   refine ⟨_, store_ow hT hOw hi', ?_⟩
   refine ⟨⟨by decide, ⟨by omega, by omega⟩⟩, ?_⟩
   refine ⟨⟨by decide, ⟨by omega, by omega⟩⟩, ?_⟩
   refine ⟨⟨by omega, by omega⟩, ?_⟩
   refine ⟨⟨by omega, by omega⟩, ?_⟩
   refine ⟨l - (i + 1), by omega, i + 1, _, _, _, _, _, _, _, _, _, _, _, _, _, _, _, _, _, _, _, _, _, _, _, _, _, _, _, _, rfl, rfl, rfl, ?_, hi', ?_⟩
   ·rw [take_snoc he, s2]
   ·rw [take_snoc he, s1]
    have hset : (carryL 0 (zs.take i) ++ zs.drop i).set i ((e.tmod 100000000 + o).tmod 100000000) = carryL 0 (zs.take i) ++ [(e.tmod 100000000 + o).tmod 100000000] ++ zs.drop (i + 1) := by
     rw [List.set_append_right _ _ (by omega), hcl, Nat.sub_self, drop_of_get he]
     simp
    rw [← hset]
    exact hU.trans (upd_set hOw.lt (by rw [hU.n]; exact hn))
  ·have : i = l := by omega
   subst this
   subst ho
   exact ⟨rfl, hU⟩
end Go.PI
open Go.Proofs
namespace Go.PI
open IM
theorem fn184 : ctx.fn 184 = some c184 := by kernel_rfl
theorem fn125 : ctx.fn 125 = some c125 := by kernel_rfl
theorem fn185 : ctx.fn 185 = some c185 := by kernel_rfl
theorem trim_is {xs : List Int} {n : Nat} (hn : n <= xs.length) (hz : ∀ j, n <= j -> j < xs.length -> xs[j]? = some 0) (ht : n = 0 ∨ ∃ x, xs[n - 1]? = some x /\ x ≠ 0) : trimL xs = xs.take n := by
 have h1 : xs = xs.take n ++ List.replicate (xs.length - n) 0 := by
  apply List.ext_getElem?
  intro j
  by_cases hj : j < n
  ·rw [List.getElem?_append_left (by simp; omega), List.getElem?_take, if_pos hj]
  ·rw [List.getElem?_append_right (by simp; omega)]
   by_cases hl : j < xs.length
   ·rw [hz j (by omega) hl, List.getElem?_replicate, List.length_take, if_pos (by omega)]
   ·rw [List.getElem?_eq_none (by omega), List.getElem?_eq_none (by simp; omega)]
 conv => lhs; rw [h1, trim_zeros]
 apply trim_of_top
 rcases ht with rfl | ⟨x, hx, hx0⟩
 ·exact .inl (by simp)
 ·by_cases h0 : n = 0
  ·subst h0; exact .inl (by simp)
  ·exact .inr ⟨xs.take (n - 1), x, by rw [← take_snoc hx]; congr 1; omega, hx0⟩
theorem Ow.cut {H : Heap} {v : AV} {b : Nat} {zs : List Int} {l : Nat} (h : Ow H v b zs l) {C : Ctx} (hT : C.ty = tget) {ρ : Operand -> Option AV} {x y : Operand} {k : Nat} (hx : ρ x = some v) (hy : ρ y = some (iv k)) (hk : k <= l) :
  ∃ r, pureE C ρ (.slice 22 x none (some y) none) = some r /\ Ow H r b zs k := by
 obtain ⟨h1, h2, ⟨c, rfl, h3, h4⟩ | rfl⟩ := h
 ·refine ⟨.sl b 0 k c, ?_, h1, by omega, .inl ⟨c, rfl, by omega, h4⟩⟩
  have : (0 : Int) <= (k : Int) /\ (k : Int) <= (c : Int) := by omega
  simp only [pureE, hx, hy, ty22 hT, t22, ty3 hT, bound, this]
  simp [t3]
 ·have : (0 : Int) <= (k : Int) /\ (k : Int) <= (l : Int) := by omega
  refine ⟨.slu b 0 k 1, ?_, h1, by omega, .inr rfl⟩
  simp only [pureE, hx, hy, ty22 hT, t22, ty3 hT, bound, this]
  by_cases hl : 0 < l
  ·simp [t3, hl]
  ·simp [t3, hl]
set_option maxRecDepth 10000
set_option maxHeartbeats 1000000
variable (S : FuncId -> Option (List AV -> Heap -> Option (AV × Heap)))
theorem trim_run (hS : S 184 = none) {H : Heap} {v : AV} {b : Nat} {zs : List Int} {l : Nat} (hlb : l <= 1073741824) (h : Ow H v b zs l) :
  Cl (ctx.plus S) 184 [v] H fun r H' => H = H' /\ Ow H r b zs (trimL (zs.take l)).length := by
 refine cl_of hS fn184 ?_
 have hT : (ctx.plus S).ty = tget := rfl
 have hlz := h.2.1
 have hlen : (zs.take l).length = l := by simp; omega
 refine ⟨_, len_sl hT (v := v) rfl h.sl, ?_⟩
 rw [hlen]
 refine ⟨fun m s => ∃ (i : Nat) (n : Int) (j1 j2 j4 j5 j6 j7 j8 j9 j10 j11 j12 j13 j14 j15 j16 j17 j18 j19 j20 : AV),
  s = ⟨[v, j1, j2, iv n, j4, j5, j6, j7, j8, j9, j10, j11, j12, j13, j14, j15, j16, j17, j18, j19, j20], H, []⟩ /\ m = i /\ n = i /\ i <= l /\ (∀ j, i <= j -> j < l -> zs[j]? = some 0), ⟨l, ?_⟩, ?_⟩
 ·exact ⟨l, l, _, _, _, _, _, _, _, _, _, _, _, _, _, _, _, _, _, _, _, rfl, rfl, rfl, Nat.le_refl _, fun j h1 h2 => by omega⟩
 ·rintro m s ⟨i, n, j1, j2, j4, j5, j6, j7, j8, j9, j10, j11, j12, j13, j14, j15, j16, j17, j18, j19, j20, rfl, hm, rfl, hi, hz⟩
  have fin : (i = 0 ∨ ∃ x, zs[i - 1]? = some x /\ x ≠ 0) -> (trimL (zs.take l)).length = i := fun ht => by
   rw [trim_is (n := i) (by omega) (fun j h1 h2 => by rw [List.getElem?_take, if_pos (by omega)]; exact hz j h1 (by omega))]
   ·simp; omega
   ·rcases ht with h0 | ⟨x, hx, hx0⟩
    ·exact .inl h0
    ·by_cases h0 : i = 0
     ·exact .inl h0
     ·exact .inr ⟨x, by rw [List.getElem?_take, if_pos (by omega)]; exact hx, hx0⟩
  refine ⟨fun hgt => ?_, fun hle => ?_⟩
  ·obtain ⟨e, he⟩ : ∃ e, zs[i - 1]? = some e := ⟨zs[i - 1]'(by omega), List.getElem?_eq_getElem _⟩
   refine ⟨⟨by omega, by omega⟩, ?_⟩
   refine ⟨_, idx_sl hT (v := v) (n := (i : Int) - 1) (k := i - 1) rfl rfl h.sl (by omega) (by omega), ?_⟩
   refine ⟨_, load_sl hT h.sl (x := e) (by rw [List.getElem?_take, if_pos (by omega)]; exact he), ?_⟩
   refine ⟨fun h0 => ?_, fun h0 => ?_⟩
   ·refine ⟨⟨by omega, by omega⟩, ?_⟩
    refine ⟨i - 1, by omega, i - 1, _, _, _, _, _, _, _, _, _, _, _, _, _, _, _, _, _, _, _, _, rfl, rfl, by omega, by omega, fun j h1 h2 => ?_⟩
    by_cases hj : j = i - 1
    ·subst hj; rw [he, h0]
    ·exact hz j (by omega) h2
   ·obtain ⟨r, hr1, hr2⟩ := h.cut hT (ρ := fun o => match o with | .tmp 18 => some v | _ => some (iv i)) (x := .tmp 18) (y := .tmp 19) (k := i) rfl rfl hi
    refine ⟨r, hr1, ?_⟩
    refine ⟨rfl, ?_⟩
    rw [fin (.inr ⟨e, he, h0⟩)]
    exact hr2
  ·obtain ⟨r, hr1, hr2⟩ := h.cut hT (ρ := fun o => match o with | .tmp 18 => some v | _ => some (iv i)) (x := .tmp 18) (y := .tmp 19) (k := i) rfl rfl hi
   refine ⟨r, hr1, ?_⟩
   refine ⟨rfl, ?_⟩
   rw [fin (.inl (by omega))]
   exact hr2
def sgnL (xs : List Int) : Int :=
 match xs.getLast? with
 | some t => if t < 0 then -1 else 1
 | none => 0
theorem sign_run (hS : S 125 = none) {H : Heap} {v : AV} {xs : List Int} (hlb : xs.length <= 1073741824) (h : Sl H v xs) :
  Cl (ctx.plus S) 125 [v] H fun r H' => r = iv (sgnL xs) /\ H = H' := by
 refine cl_of hS fn125 ?_
 have hT : (ctx.plus S).ty = tget := rfl
 refine ⟨_, len_sl hT (v := v) rfl h, ?_⟩
 refine ⟨fun h0 => ?_, fun h0 => ?_⟩
 ·have : xs = [] := List.eq_nil_of_length_eq_zero (by omega)
  subst this
  exact ⟨rfl, rfl⟩
 ·obtain ⟨e, he⟩ : ∃ e, xs[xs.length - 1]? = some e := ⟨xs[xs.length - 1]'(by omega), List.getElem?_eq_getElem _⟩
  have hs : sgnL xs = if e < 0 then -1 else 1 := by
   unfold sgnL
   rw [List.getLast?_eq_getElem?, he]
  refine ⟨_, len_sl hT (v := v) rfl h, ?_⟩
  refine ⟨⟨by omega, by omega⟩, ?_⟩
  refine ⟨_, idx_sl hT (v := v) (n := (xs.length : Int) - 1) (k := xs.length - 1) rfl rfl h (by omega) (by omega), ?_⟩
  refine ⟨_, load_sl hT h he, ?_⟩
  refine ⟨fun hn => ?_, fun hn => ?_⟩
  ·exact ⟨by rw [hs, if_pos hn], rfl⟩
  ·exact ⟨by rw [hs, if_neg (by omega)], rfl⟩
end Go.PI
open Go.Proofs
namespace Go.PI
open IM
theorem fn113 : ctx.fn 113 = some c113 := by kernel_rfl
def Sml (xs : List Int) : Prop := ∀ x ∈ xs, -100000000 < x /\ x < 100000000
set_option maxRecDepth 10000
set_option maxHeartbeats 1000000
variable (S : FuncId -> Option (List AV -> Heap -> Option (AV × Heap)))
theorem sgn_cases (xs : List Int) : (xs = [] /\ sgnL xs = 0) ∨ sgnL xs = 1 ∨ sgnL xs = -1 := by
 unfold sgnL
 cases h : xs.getLast? with
 | none => exact .inl ⟨by simpa using h, rfl⟩
 | some t => by_cases ht : t < 0 <;> simp [ht]
theorem borrow_run (hS : S 185 = none) (hS1 : S 125 = none) {H : Heap} {v : AV} {b : Nat} {zs : List Int} {l : Nat} (hn : H.n < lim) (hlb : l <= 1073741824) (h : Ow H v b zs l) (hs : Sml (zs.take l)) :
  Cl (ctx.plus S) 185 [v] H fun _ H' => Upd H b (.cells true 3 (ints (borrowB (sgnL (zs.take l)) 0 (zs.take l) ++ zs.drop l))) H' := by
 refine cl_of hS fn185 ?_
 have hT : (ctx.plus S).ty = tget := rfl
 have hlz := h.2.1
 have hlen : (zs.take l).length = l := by simp; omega
 refine (sign_run S hS1 (v := v) (by omega) h.sl).mono ?_
 rintro _ _ ⟨rfl, rfl⟩
 refine ⟨_, len_sl hT (v := v) rfl h.sl, ?_⟩
 rw [hlen]
 refine ⟨⟨by omega, by omega⟩, ?_⟩
 have hu := sgn_cases (zs.take l)
 generalize sgnL (zs.take l) = u at hu ⊢
 refine ⟨fun m s => ∃ (i : Nat) (n : Int) (H' : Heap) (j1 j3 j4 j5 j7 j10 j11 j12 j13 j14 j15 j16 j17 j18 j19 j20 j21 j22 j23 j24 j25 j26 j27 j28 j29 j30 j31 j32 j33 j34 j35 : AV),
  s = ⟨[v, j1, iv u, j3, j4, j5, v, j7, iv ((l : Int) - 1), iv n, j10, j11, j12, j13, j14, j15, j16, j17, j18, j19, j20, j21, j22, j23, j24, j25, j26, j27, j28, j29, j30, j31, j32, j33, j34, j35], H', []⟩ /\ m = l - i /\ n = i ∧
   (l = 0 /\ i = 0 /\ H' = H ∨ ∃ (B : List Int) (d x : Int) (rest : List Int), B.length = i /\ i + 1 + rest.length = l /\ (d = 0 ∨ d = u) /\ (u = 1 ∨ u = -1) /\ -100000000 < x /\ x < 100000000 /\ Sml rest ∧
    borrowB u 0 (zs.take l) = B ++ borrowB u d (x :: rest) /\ Upd H b (.cells true 3 (ints (B ++ (x - d) :: rest ++ zs.drop l))) H'), ⟨l, ?_⟩, ?_⟩
 ·refine ⟨0, 0, H, _, _, _, _, _, _, _, _, _, _, _, _, _, _, _, _, _, _, _, _, _, _, _, _, _, _, _, _, _, _, _, rfl, rfl, rfl, ?_⟩
  rcases hu with ⟨h1, -⟩ | hu
  ·rw [h1] at hlen; simp at hlen; exact .inl ⟨hlen.symm, rfl, rfl⟩
  ·cases hz : zs.take l with
   | nil => rw [hz] at hlen; simp at hlen; exact .inl ⟨hlen.symm, rfl, rfl⟩
   | cons x rest =>
    rw [hz] at hs hlen
    have hx := hs x (by simp)
    refine .inr ⟨[], 0, x, rest, rfl, by simp at hlen; omega, .inl rfl, hu, hx.1, hx.2, fun y hy => hs y (by simp [hy]), rfl, Upd.refl ?_⟩
    rw [h.1, Int.sub_zero, List.nil_append, ← hz, List.take_append_drop]
 ·rintro m s ⟨i, n, H', j1, j3, j4, j5, j7, j10, j11, j12, j13, j14, j15, j16, j17, j18, j19, j20, j21, j22, j23, j24, j25, j26, j27, j28, j29, j30, j31, j32, j33, j34, j35, rfl, hm, rfl, hI⟩
  refine ⟨fun hlt => ?_, fun hge => ?_⟩
  ·rcases hI with ⟨rfl, rfl, -⟩ | ⟨B, d, x, rest, hB, hl, hd, hu1, hx1, hx2, hsr, hbr, hU⟩
   ·exact absurd hlt (by omega)
   cases rest with
   | nil => exact absurd hlt (by simp at hl; omega)
   | cons y ys =>
   have hy := hsr y (by simp)
   have hOw : Ow H' v b (B ++ (x - d) :: y :: ys ++ zs.drop l) l := h.keep hU.at_ (by simp at hl ⊢; omega)
   have htk : (B ++ (x - d) :: y :: ys ++ zs.drop l).take l = B ++ (x - d) :: y :: ys := by
    rw [List.take_append_of_le_length (by simp at hl ⊢; omega), List.take_of_length_le (by simp at hl ⊢; omega)]
   have hsl := hOw.sl
   rw [htk] at hsl
   have hg : (B ++ (x - d) :: y :: ys)[i]? = some (x - d) := by rw [List.getElem?_append_right (by omega), hB, Nat.sub_self]; rfl
   have hil : i < (B ++ (x - d) :: y :: ys).length := by simp at hl ⊢; omega
   have hil2 : i + 1 < l := by simp at hl; omega
   have hn' : H'.n < lim := by rw [hU.n]; exact hn
   refine ⟨_, idx_sl hT (v := v) (n := i) rfl rfl hsl rfl hil, ?_⟩
   refine ⟨_, load_sl hT hsl hg, ?_⟩
   refine ⟨⟨by rcases hu1 with rfl | rfl <;> rcases hd with rfl | rfl <;> omega, by rcases hu1 with rfl | rfl <;> rcases hd with rfl | rfl <;> omega⟩, ?_⟩
   refine ⟨fun hneg => ?_, fun hpos => ?_⟩
   ·refine ⟨_, idx_sl hT (v := v) (n := i) rfl rfl hsl rfl hil, ?_⟩
    refine ⟨_, load_sl hT hsl hg, ?_⟩
    refine ⟨⟨by rcases hu1 with rfl | rfl <;> omega, by rcases hu1 with rfl | rfl <;> omega⟩, ?_⟩
    refine ⟨⟨by rcases hu1 with rfl | rfl <;> rcases hd with rfl | rfl <;> omega, by rcases hu1 with rfl | rfl <;> rcases hd with rfl | rfl <;> omega⟩, ?_⟩
    refine ⟨_, idx_sl hT (v := v) (n := i) rfl rfl hsl rfl hil, ?_⟩
    refine ⟨_, store_ow hT hOw (by omega), ?_⟩
    have hset : (B ++ (x - d) :: y :: ys ++ zs.drop l).set i (x - d + u * 100000000) = B ++ (x - d + u * 100000000) :: y :: ys ++ zs.drop l := by
     rw [List.append_assoc, List.set_append_right _ _ (by omega), hB, Nat.sub_self]; simp
    rw [hset]
    have hU2 : Upd H b (.cells true 3 (ints (B ++ (x - d + u * 100000000) :: y :: ys ++ zs.drop l))) (H'.set b (.cells true 3 (ints (B ++ (x - d + u * 100000000) :: y :: ys ++ zs.drop l)))) := hU.trans (upd_set hOw.lt hn')
    generalize H'.set b _ = H2 at hU2
    have hOw2 : Ow H2 v b (B ++ (x - d + u * 100000000) :: y :: ys ++ zs.drop l) l := h.keep hU2.at_ (by simp at hl ⊢; omega)
    have htk2 : (B ++ (x - d + u * 100000000) :: y :: ys ++ zs.drop l).take l = B ++ (x - d + u * 100000000) :: y :: ys := by
     rw [List.take_append_of_le_length (by simp at hl ⊢; omega), List.take_of_length_le (by simp at hl ⊢; omega)]
    have hsl2 := hOw2.sl
    rw [htk2] at hsl2
    have hg2 : (B ++ (x - d + u * 100000000) :: y :: ys)[i + 1]? = some y := by rw [List.getElem?_append_right (by omega), hB, Nat.add_sub_cancel_left]; rfl
    have hil3 : i + 1 < (B ++ (x - d + u * 100000000) :: y :: ys).length := by simp at hl ⊢; omega
    refine ⟨⟨by omega, by omega⟩, ?_⟩
    refine ⟨_, idx_sl hT (v := v) (n := (i : Int) + 1) (k := i + 1) rfl rfl hsl2 rfl hil3, ?_⟩
    refine ⟨_, load_sl hT hsl2 hg2, ?_⟩
    refine ⟨⟨by rcases hu1 with rfl | rfl <;> omega, by rcases hu1 with rfl | rfl <;> omega⟩, ?_⟩
    refine ⟨_, idx_sl hT (v := v) (n := (i : Int) + 1) (k := i + 1) rfl rfl hsl2 rfl hil3, ?_⟩
    refine ⟨_, store_ow hT hOw2 hil2, ?_⟩
    refine ⟨⟨by omega, by omega⟩, ?_⟩
    refine ⟨l - (i + 1), by omega, i + 1, _, _, _, _, _, _, _, _, _, _, _, _, _, _, _, _, _, _, _, _, _, _, _, _, _, _, _, _, _, _, _, _, _, rfl, rfl, rfl, .inr ⟨B ++ [x - d + u * 100000000], u, y, ys, by simp [hB], by simp at hl; omega, .inr rfl, hu1, hy.1, hy.2, fun z hz => hsr z (by simp [hz]), ?_, ?_⟩⟩
    ·rw [hbr]
     conv => lhs; unfold borrowB
     rw [if_pos hneg]; simp
    ·have hset2 : (B ++ (x - d + u * 100000000) :: y :: ys ++ zs.drop l).set (i + 1) (y - u) = B ++ [x - d + u * 100000000] ++ (y - u) :: ys ++ zs.drop l := by
      rw [List.append_assoc, List.set_append_right _ _ (by omega), hB, Nat.add_sub_cancel_left]; simp
     rw [← hset2]
     exact hU2.trans (upd_set hOw2.lt (by rw [hU2.n]; exact hn))
   ·refine ⟨⟨by omega, by omega⟩, ?_⟩
    refine ⟨l - (i + 1), by omega, i + 1, _, _, _, _, _, _, _, _, _, _, _, _, _, _, _, _, _, _, _, _, _, _, _, _, _, _, _, _, _, _, _, _, _, rfl, rfl, rfl, .inr ⟨B ++ [x - d], 0, y, ys, by simp [hB], by simp at hl; omega, .inl rfl, hu1, hy.1, hy.2, fun z hz => hsr z (by simp [hz]), ?_, ?_⟩⟩
    ·rw [hbr]
     conv => lhs; unfold borrowB
     rw [if_neg (by omega)]; simp
    ·rw [Int.sub_zero, List.append_assoc B [x - d]]
     exact hU
  ·rcases hI with ⟨h0, -, hHH⟩ | ⟨B, d, x, rest, hB, hl, hd, hu1, hx1, hx2, hsr, hbr, hU⟩
   ·subst h0 hHH
    have hfin : Upd H' b (.cells true 3 (ints (borrowB u 0 (zs.take 0) ++ zs.drop 0))) H' := Upd.refl (by simpa [borrowB] using h.1)
    exact hfin
   ·cases rest with
    | cons y ys => exact absurd hge (by simp at hl; omega)
    | nil =>
     have hfin : Upd H b (.cells true 3 (ints (borrowB u 0 (zs.take l) ++ zs.drop l))) H' := by
      rw [hbr]
      simpa [borrowB] using hU
     exact hfin
/-! ### append of one element to a slice of our own -/
structure Mine (H0 : Heap) (b0 : Nat) (v : AV) (xs : List Int) (H : Heap) : Prop where
 n : H0.n <= H.n
 keep : ∀ A, A < H0.n -> A ≠ b0 -> H.get A = H0.get A
 at_ : ∃ b zs, Ow H v b zs xs.length /\ zs.take xs.length = xs /\ (b = b0 ∨ H0.n <= b)
theorem append_mine {C : Ctx} (hT : C.ty = tget) {H0 H : Heap} {b0 : Nat} {v : AV} {xs : List Int} {e : Int} (hn : H.n + 1 < lim) (hl : xs.length <= 1073741824) (h : Mine H0 b0 v xs H) :
  ∃ r H', appendE C [22, 22] v (.sl H.n 0 1 1) (H.push (.cells true 3 [iv e])) = some (r, H') /\ Mine H0 b0 r (xs ++ [e]) H' /\ H'.n <= H.n + 2 := by
 obtain ⟨h1, h2, b, zs, hO, hx, hb⟩ := h
 have hbn := hO.lt
 have hp : ∀ A, (H.push (.cells true 3 [iv e])).get A = if A = H.n then .cells true 3 [iv e] else H.get A := Heap.get_push (by omega)
 have hpn : (H.push (.cells true 3 [iv e])).n = H.n + 1 := rfl
 have hcells : cellsE (H.push (.cells true 3 [iv e])) 1 1 (.sl H.n 0 1 1) = some [iv e] := by
  simp [cellsE, hp]
 have hxe : (zs.take xs.length) = xs := hx
 obtain ⟨g1, g2, g3⟩ := hO
 have hgb : (H.push (.cells true 3 [iv e])).get b = .cells true 3 (ints zs) := by rw [hp, if_neg (by omega)]; exact g1
 have hone : ones [iv e] = true := rfl
 have hnlim : ¬ lim <= H.n + 1 := by omega
 rcases g3 with ⟨c, rfl, g4, g5⟩ | rfl
 ·by_cases hc : xs.length + 1 <= c
  ·have hsn : ((H.push (.cells true 3 [iv e])).set b (.cells true 3 (ints (zs.set xs.length e)))).n = H.n + 1 := rfl
   refine ⟨.sl b 0 (xs.length + 1) c, (H.push (.cells true 3 [iv e])).set b (.cells true 3 (ints (zs.set xs.length e))), ?_, ⟨by omega, ?_, b, zs.set xs.length e, ⟨?_, by simp; omega, .inl ⟨c, by simp, by simp; omega, by simp; omega⟩⟩, ?_, hb⟩, ?_⟩
   ·simp only [appendE, ty22 hT, ty3 hT, t22, t3, srcOk, lenE, hcells, hone, hgb, hpn]
    simp only [Bool.true_eq_false, false_or, hnlim, or_false]
    simp
    rw [if_pos hc, splice_one (by rw [ints_length]; omega), ints_set, if_pos (by rw [ints_length]; omega)]
    exact ⟨hl, rfl⟩
   ·intro A hA hA2
    rw [Heap.get_set (by omega) (by omega)]
    by_cases hAb : A = b
    ·rcases hb with rfl | hb
     ·exact absurd hAb hA2
     ·omega
    ·rw [if_neg hAb, hp, if_neg (by omega)]; exact h2 A hA hA2
   ·rw [Heap.get_set (by omega) (by omega), if_pos rfl]
   ·have hlt : xs.length < zs.length := by omega
    rw [List.length_append, List.length_singleton, List.take_add_one, List.take_set_of_le (Nat.le_refl _), hxe, List.getElem?_set_self hlt]; rfl
   ·omega
  ·refine ⟨.slu (H.n + 1) 0 (xs.length + 1) 1, (H.push (.cells true 3 [iv e])).push (.cells true 3 (ints (xs ++ [e]))), ?_, ⟨?_, ?_, H.n + 1, xs ++ [e], ⟨?_, by simp, .inr (by simp)⟩, List.take_of_length_le (Nat.le_refl _), .inr (by omega)⟩, ?_⟩
   ·simp only [appendE, ty22 hT, ty3 hT, t22, t3, srcOk, lenE, hcells, hone, hgb, hpn]
    simp only [Bool.true_eq_false, false_or, hnlim, or_false]
    have hti : List.take xs.length (ints zs) ++ [iv e] = ints (xs ++ [e]) := by rw [ints_take, hxe, ints_append]; rfl
    simp [hc, hti]
    rw [ints_length]; omega
   ·show H0.n <= H.n + 1 + 1
    omega
   ·intro A hA hA2
    rw [Heap.get_push (by omega), hpn, if_neg (by omega), hp, if_neg (by omega)]; exact h2 A hA hA2
   ·rw [Heap.get_push (by omega), hpn, if_pos rfl]
   ·show H.n + 1 + 1 <= H.n + 2
    omega
 ·refine ⟨.slu (H.n + 1) 0 (xs.length + 1) 1, ((H.push (.cells true 3 [iv e])).set b .dead).push (.cells true 3 (ints (xs ++ [e]))), ?_, ⟨?_, ?_, H.n + 1, xs ++ [e], ⟨?_, by simp, .inr (by simp)⟩, List.take_of_length_le (Nat.le_refl _), .inr (by omega)⟩, ?_⟩
  ·simp only [appendE, ty22 hT, ty3 hT, t22, t3, srcOk, lenE, hcells, hone, hgb, hpn]
   simp only [Bool.true_eq_false, false_or, hnlim, or_false]
   have hti : List.take xs.length (ints zs) ++ [iv e] = ints (xs ++ [e]) := by rw [ints_take, hxe, ints_append]; rfl
   simp [hti]
   rw [ints_length]; omega
  ·show H0.n <= H.n + 1 + 1
   omega
  ·intro A hA hA2
   have hsn : ((H.push (.cells true 3 [iv e])).set b .dead).n = H.n + 1 := rfl
   rw [Heap.get_push (by omega), hsn, if_neg (by omega), Heap.get_set (by omega) (by omega), hp]
   by_cases hAb : A = b
   ·rcases hb with rfl | hb
    ·exact absurd hAb hA2
    ·omega
   ·rw [if_neg hAb, if_neg (by omega)]; exact h2 A hA hA2
  ·have hsn : ((H.push (.cells true 3 [iv e])).set b .dead).n = H.n + 1 := rfl
   rw [Heap.get_push (by omega), hsn, if_pos rfl]
  ·show H.n + 1 + 1 <= H.n + 2
   omega
theorem Mine.sl {H0 H : Heap} {b0 : Nat} {v : AV} {xs : List Int} (h : Mine H0 b0 v xs H) : Sl H v xs := by
 obtain ⟨-, -, b, zs, hO, hx, -⟩ := h
 have := hO.sl
 rwa [hx] at this
theorem Mine.upd {H0 H H' : Heap} {b0 b : Nat} {v : AV} {xs ys : List Int} {zs : List Int} (h : Mine H0 b0 v xs H) (hO : Ow H v b zs xs.length) (hb : b = b0 ∨ H0.n <= b) (hl : ys.length = xs.length) (hU : Upd H b (.cells true 3 (ints (ys ++ zs.drop xs.length))) H') : Mine H0 b0 v ys H' := by
 refine ⟨by rw [hU.n]; exact h.n, fun A hA hA2 => ?_, b, ys ++ zs.drop xs.length, ?_, by simp, hb⟩
 ·rw [hU.other A (fun e => by subst e; rcases hb with rfl | hb; exact hA2 rfl; omega)]
  exact h.keep A hA hA2
 ·rw [hl]
  have := hO.2.1
  exact hO.keep hU.at_ (by simp; omega)
theorem carry_mine (hS : S 183 = none) {H0 H : Heap} {b0 : Nat} {v : AV} {xs : List Int} (hn : H.n < lim) (hlb : xs.length <= 1073741824) (h : Mine H0 b0 v xs H) (hr : ∀ x ∈ xs, In64 x) :
  Cl (ctx.plus S) 183 [v] H fun r H' => r = iv (carryO 0 xs) /\ Mine H0 b0 v (carryL 0 xs) H' /\ H'.n = H.n := by
 obtain ⟨-, -, b, zs, hO, hx, hb⟩ := id h
 refine (carry_run S hS hn hlb hO (by rw [hx]; exact hr)).mono ?_
 rintro r H' ⟨rfl, hU⟩
 rw [hx] at hU ⊢
 exact ⟨rfl, h.upd hO hb (carry_length _ _) hU, hU.n⟩
theorem trim_mine (hS : S 184 = none) {H0 H : Heap} {b0 : Nat} {v : AV} {xs : List Int} (hlb : xs.length <= 1073741824) (h : Mine H0 b0 v xs H) :
  Cl (ctx.plus S) 184 [v] H fun r H' => H = H' /\ Mine H0 b0 r (trimL xs) H := by
 obtain ⟨h1, h2, b, zs, hO, hx, hb⟩ := h
 refine (trim_run S hS hlb hO).mono ?_
 rintro r _ ⟨rfl, hO2⟩
 rw [hx] at hO2
 obtain ⟨g1, -, g3⟩ := trim_take xs
 refine ⟨rfl, h1, h2, b, zs, hO2, ?_, hb⟩
 conv => rhs; rw [g1, ← hx]
 rw [List.take_take, Nat.min_eq_left (by rw [hx]; exact g3), hx]
theorem borrow_mine (hS : S 185 = none) (hS1 : S 125 = none) {H0 H : Heap} {b0 : Nat} {v : AV} {xs : List Int} (hn : H.n < lim) (hlb : xs.length <= 1073741824) (h : Mine H0 b0 v xs H) (hs : Sml xs) :
  Cl (ctx.plus S) 185 [v] H fun _ H' => Mine H0 b0 v (borrowB (sgnL xs) 0 xs) H' /\ H'.n = H.n := by
 obtain ⟨-, -, b, zs, hO, hx, hb⟩ := id h
 refine (borrow_run S hS hS1 hn hlb hO (by rw [hx]; exact hs)).mono ?_
 intro r H' hU
 rw [hx] at hU
 exact ⟨h.upd hO hb (borrow_length _ _ _) hU, hU.n⟩
theorem settle_run (h113 : S 113 = none) (h183 : S 183 = none) (h184 : S 184 = none) (h185 : S 185 = none) (h125 : S 125 = none) {H : Heap} {b0 : Nat} {H0 : Heap} {v : AV} {xs : List Int} (hn : H.n + 8 < lim) (hlb : xs.length <= 1000000000) (h : Mine H0 b0 v xs H) (hr : ∀ x ∈ xs, In64 x) :
  Cl (ctx.plus S) 113 [v] H fun r H' => Mine H0 b0 r (digits (val xs)) H' /\ H'.n <= H.n + 6 := by
 refine cl_of h113 fn113 ?_
 have hT : (ctx.plus S).ty = tget := rfl
 refine (carry_mine S h183 (by omega) (by omega) h hr).mono ?_
 rintro _ H1 ⟨rfl, hM, hn1⟩
 have ho3 := ov_three (fun x hx => hr x hx)
 have hov := carryO_small xs (fun x hx => hr x hx) 0 (by unfold OvB; omega)
 have hcl := carry_length xs 0
 refine ⟨fun m s => ∃ (k : Nat) (o : Int) (u : AV) (ds : List Int) (H' : Heap) (j1 j2 j4 j5 j6 j7 j8 j9 j10 j11 j12 j13 j14 j15 j16 j17 j18 j19 j20 : AV),
  s = ⟨[u, j1, j2, iv o, j4, j5, j6, j7, j8, j9, j10, j11, j12, j13, j14, j15, j16, j17, j18, j19, j20], H', []⟩ /\ m = k /\ k <= 3 /\ OvB o /\ Mine H0 b0 u (carryL 0 xs ++ ds) H' /\ H'.n <= H.n + 2 * (3 - k) /\ ds ++ overL k o = overL 3 (carryO 0 xs) /\ o.natAbs < 100000000 ^ k /\ ds.length = 3 - k, ⟨3, ?_⟩, ?_⟩
 ·exact ⟨3, carryO 0 xs, v, [], H1, _, _, _, _, _, _, _, _, _, _, _, _, _, _, _, _, _, _, _, rfl, rfl, by omega, hov, by simpa using hM, by omega, by simp, ho3, rfl⟩
 ·rintro m s ⟨k, o, u, ds, H', j1, j2, j4, j5, j6, j7, j8, j9, j10, j11, j12, j13, j14, j15, j16, j17, j18, j19, j20, rfl, hm, hk3, hoB, hM', hn', hds, hok, hdl⟩
  refine ⟨fun hne => ?_, fun h0 => ?_⟩
  ·obtain ⟨k, rfl⟩ : ∃ j, k = j + 1 := by
    cases k with
    | zero => simp at hok; exact absurd hok hne
    | succ j => exact ⟨j, rfl⟩
   unfold OvB at hoB
   have ho := tq o
   refine ⟨by decide, ?_⟩
   refine ⟨by omega, _, _, rfl, ?_⟩
   obtain ⟨r, H2, ha, hM2, hn2⟩ := append_mine hT (C := ctx.plus S) (e := o.tmod 100000000) (by omega) (by simp [hcl]; omega) hM'
   refine ⟨r, H2, ha, ?_⟩
   refine ⟨⟨by decide, ⟨by omega, by omega⟩⟩, ?_⟩
   refine ⟨k, by omega, k, _, _, ds ++ [o.tmod 100000000], H2, _, _, _, _, _, _, _, _, _, _, _, _, _, _, _, _, _, _, _, rfl, rfl, by omega, ?_, by rw [← List.append_assoc]; exact hM2, by omega, ?_, ?_, by simp; omega⟩
   ·unfold OvB; omega
   ·rw [← hds, List.append_assoc]
    conv => rhs; unfold overL
    rw [if_neg hne]
    rfl
   ·rw [Int.natAbs_tdiv]
    rw [Nat.pow_succ] at hok
    exact Nat.div_lt_of_lt_mul (by rw [Nat.mul_comm]; exact hok)
  ·subst h0
   have hds2 : ds = overL 3 (carryO 0 xs) := by
    rw [← hds]
    cases k <;> simp [overL]
   have hlen : (carryL 0 xs ++ ds).length <= 1073741824 := by simp [hcl]; omega
   refine (trim_mine S h184 hlen hM').mono ?_
   rintro r1 _ ⟨rfl, hM1⟩
   rw [hds2] at hM1
   have hl1 := (trim_take (carryL 0 xs ++ overL 3 (carryO 0 xs))).2.2
   rw [hds2] at hlen
   have hsm : Sml (trimL (carryL 0 xs ++ overL 3 (carryO 0 xs))) := fun x hx => by
    rcases List.mem_append.1 (trim_mem _ x hx) with h | h
    ·exact carry_small _ _ x h
    ·exact overL_small _ _ x h
   refine (borrow_mine S h185 h125 (by omega) (by omega) hM1 hsm).mono ?_
   rintro _ H3 ⟨hM3, hn3⟩
   refine (trim_mine S h184 (by rw [borrow_length]; omega) hM3).mono ?_
   rintro r3 _ ⟨rfl, hM4⟩
   have hset := settle_digits ho3
   unfold settleL at hset
   simp only at hset
   have hfin : Mine H0 b0 r3 (digits (val xs)) H3 /\ H3.n <= H.n + 6 := by
    refine ⟨?_, by omega⟩
    rw [← hset]
    exact hM4
   exact hfin
end Go.PI
