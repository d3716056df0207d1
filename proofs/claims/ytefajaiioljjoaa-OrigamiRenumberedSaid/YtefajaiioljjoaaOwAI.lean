/- Own work of the verifier: PiDraw6 PiCtx PiSum PiFast. -/
import Derived.Test.YtefajaiioljjoaaOwAH
set_option linter.all false
set_option exponentiation.threshold 3000
set_option linter.deprecated false
namespace Go.PI
variable {P : Program} {C : Ctx}
theorem trace_get {ih : Ih} {ops : List Oper} : ∀ (rest : List Oper) (T : List AV) (H : Heap) (tr : List (List AV × Heap)), traceE C ih ops rest T H = some tr →
    tr.length = rest.length + 1 ∧ tr[0]? = some (T, H) ∧ ∀ (i : Nat) (o : Oper), rest[i]? = some o → ∃ x y, tr[i]? = some x ∧ tr[i + 1]? = some y ∧ stepE C ih ops o x.1 x.2 = some y
  | [], T, H, tr, h => by simp [traceE] at h; subst h; simp
  | o :: rest, T, H, tr, h => by
    unfold traceE at h
    split at h
    · rename_i T' H' hs
      split at h
      · rename_i tr' ht
        cases h
        obtain ⟨h1, h2, h3⟩ := trace_get rest T' H' tr' ht
        refine ⟨by simp [h1], by simp, fun i x hx => ?_⟩
        cases i with
        | zero =>
          simp at hx; subst hx
          exact ⟨(T, H), (T', H'), by simp, by simpa using h2, hs⟩
        | succ i =>
          simp at hx
          obtain ⟨y, z, g1, g2, g3⟩ := h3 i x hx
          exact ⟨y, z, by simpa using g1, by simpa using g2, g3⟩
      · cases h
    · cases h
theorem lastOf_get : ∀ (tr : List (List AV × Heap)) (x : List AV × Heap), lastOf tr = some x → tr[tr.length - 1]? = some x
  | [], x, h => by cases h
  | [y], x, h => by simp [lastOf] at h; simp [h]
  | y :: z :: r, x, h => by
    simp only [lastOf] at h
    have := lastOf_get (z :: r) x h
    simpa using this
theorem shl_bit {n i : Nat} (h : (1 <<< n).testBit i = true) : i = n := by
  rw [Nat.testBit_shiftLeft] at h
  simp only [Bool.and_eq_true, decide_eq_true_eq, ge_iff_le] at h
  obtain ⟨h1, h2⟩ := h
  have : i - n = 0 := by
    cases e : i - n with
    | zero => rfl
    | succ k => rw [e, Nat.testBit_succ] at h2; simp at h2
  omega
theorem preMask_bit {acc : List Nat} {i : Nat} : ∀ {es : List Edge}, (preMask acc es).testBit i = true → ∃ e ∈ es, Region.binds .any e = true ∧ (i = e.on ∨ (acc.getD e.on 0).testBit i = true)
  | [], h => by simp [preMask] at h
  | e :: es, h => by
    unfold preMask at h
    split at h
    · rename_i hb
      rw [Nat.testBit_or, Nat.testBit_or, Bool.or_eq_true, Bool.or_eq_true] at h
      rcases h with (h | h) | h
      · obtain ⟨e', h1, h2⟩ := preMask_bit h
        exact ⟨e', List.mem_cons_of_mem _ h1, h2⟩
      · exact ⟨e, List.mem_cons_self .., hb, .inl (shl_bit h)⟩
      · exact ⟨e, List.mem_cons_self .., hb, .inr h⟩
    · obtain ⟨e', h1, h2⟩ := preMask_bit h
      exact ⟨e', List.mem_cons_of_mem _ h1, h2⟩
theorem preList_get : ∀ (os : List Oper) (acc : List Nat), (preList os acc).take acc.length = acc ∧ (preList os acc).length = acc.length + os.length ∧
    ∀ (k : Nat) (o : Oper), os[k]? = some o → (preList os acc)[acc.length + k]? = some (preMask ((preList os acc).take (acc.length + k)) o.after.toList)
  | [], acc => ⟨by simp [preList], by simp [preList], fun k o h => by simp at h⟩
  | o :: os, acc => by
    obtain ⟨h1, h2, h3⟩ := preList_get os (acc ++ [preMask acc o.after.toList])
    simp only [preList]
    have h0 : (preList os (acc ++ [preMask acc o.after.toList])).take acc.length = acc := by
      have := congrArg (List.take acc.length) h1
      rw [List.take_take] at this
      simpa using this
    refine ⟨h0, by rw [h2]; simp; omega, fun k x hx => ?_⟩
    cases k with
    | zero =>
      simp at hx; subst hx
      rw [Nat.add_zero, h0]
      have := congrArg (fun l : List Nat => l[acc.length]?) h1
      have hlt : acc.length < (acc ++ [preMask acc o.after.toList]).length := by simp
      simp only [List.getElem?_take] at this
      rw [if_pos hlt] at this
      rw [this]; simp
    | succ k =>
      simp at hx
      have := h3 k x hx
      simp only [List.length_append, List.length_singleton] at this
      rw [show acc.length + (k + 1) = acc.length + 1 + k by omega]
      exact this
theorem allBefore_get {ops : List Oper} {y : Oper} {m : Nat} : ∀ (xs : List Oper) (i : Nat), allBefore C ops y m xs i = true → ∀ (k : Nat) (x : Oper), xs[k]? = some x → clash C ops x y = true → m.testBit (i + k) = true
  | [], i, _, k, x, hx, _ => by simp at hx
  | z :: xs, i, h, k, x, hx, hc => by
    simp only [allBefore, Bool.and_eq_true, Bool.or_eq_true, Bool.not_eq_true'] at h
    cases k with
    | zero =>
      simp at hx; subst hx
      rcases h.1 with h1 | h1
      · rw [hc] at h1; cases h1
      · simpa using h1
    | succ k =>
      simp at hx
      have := allBefore_get xs (i + 1) h.2 k x hx hc
      rw [show i + (k + 1) = i + 1 + k by omega]; exact this
theorem orderOk_get {ops : List Oper} {pre : List Nat} : ∀ (ys : List Oper) (j : Nat), orderOk C ops pre ys j = true → ∀ (k : Nat) (y : Oper), ys[k]? = some y →
    (∀ (i : Nat) (x : Oper), i < j + k → ops[i]? = some x → clash C ops x y = true → (pre.getD (j + k) 0).testBit i = true) ∧ ∀ e ∈ y.after, Region.binds .any e = true → e.on < j + k
  | [], j, _, k, y, hy => by simp at hy
  | z :: ys, j, h, k, y, hy => by
    simp only [orderOk, Bool.and_eq_true] at h
    obtain ⟨⟨h1, h2⟩, h3⟩ := h
    cases k with
    | zero =>
      simp at hy; subst hy
      refine ⟨fun i x hi hx hc => ?_, fun e he hb => ?_⟩
      · have := allBefore_get (ops.take j) 0 h1 i x (by rw [List.getElem?_take, if_pos (by omega)]; exact hx) hc
        simpa using this
      · have := List.all_eq_true.1 h2 e (by simpa using he)
        rw [hb] at this
        simpa using this
    | succ k =>
      simp at hy
      have := orderOk_get ys (j + 1) h3 k y hy
      rw [show j + (k + 1) = j + 1 + k by omega]; exact this
theorem mayAt_of {ops : List Oper} {pre : List Nat} {i p : Nat} : ∀ (xs : List Oper) (j : Nat), (∀ (k : Nat) (x : Oper), xs[k]? = some x → kindOf C x.op = .eff → ((pre.getD i 0).testBit (j + k) = true → j + k < p) ∧ ((pre.getD (j + k) 0).testBit i = true → p ≤ j + k)) → mayAt C ops pre i p xs j = true
  | [], j, _ => rfl
  | x :: xs, j, h => by
    simp only [mayAt, Bool.and_eq_true]
    refine ⟨?_, mayAt_of xs (j + 1) fun k y hy hk => ?_⟩
    · by_cases hk : kindOf C x.op = .eff
      · obtain ⟨h1, h2⟩ := h 0 x rfl hk
        simp only [Nat.add_zero] at h1 h2
        simp only [Bool.or_eq_true, Bool.not_eq_true', Bool.and_eq_true, decide_eq_true_eq]
        right
        refine ⟨?_, ?_⟩
        · cases hb : (pre.getD i 0).testBit j with
          | true => exact .inr (h1 hb)
          | false => exact .inl rfl
        · cases hb : (pre.getD j 0).testBit i with
          | true => exact .inr (h2 hb)
          | false => exact .inl rfl
      · simp [hk]
    · have := h (k + 1) y (by simpa using hy) hk
      rw [show j + (k + 1) = j + 1 + k by omega] at this; exact this
theorem isBd_of {ops : List Oper} {p : Nat} (h : p = 0 ∨ ∃ o', ops[p - 1]? = some o' ∧ kindOf C o'.op = .eff) : isBd C ops p = true := by
  unfold isBd
  rcases h with rfl | ⟨o, h1, h2⟩
  · simp
  · rw [h1]; simp [h2]
theorem sames_eq {a b : AV} (h : a.sames b = true) : a = b := by
  cases a <;> cases b <;> simp only [AV.sames, Bool.and_eq_true, beq_iff_eq, Bool.false_eq_true] at h <;> first
    | rfl
    | (obtain ⟨rfl, rfl⟩ := h; rfl)
    | (obtain ⟨⟨⟨rfl, rfl⟩, rfl⟩, rfl⟩ := h; rfl)
    | (subst h; rfl)
    | skip
  rename_i s t
  obtain ⟨s⟩ := s
  obtain ⟨t⟩ := t
  simp only at h
  have : s = t := Array.toList_inj.1 h
  rw [this]
theorem sameLs_eq : ∀ {as bs : List AV}, sameLs as bs = true → as = bs
  | [], [], _ => rfl
  | [], _ :: _, h => by simp [sameLs] at h
  | _ :: _, [], h => by simp [sameLs] at h
  | a :: as, b :: bs, h => by
    simp only [sameLs, Bool.and_eq_true] at h
    rw [sames_eq h.1, sameLs_eq h.2]
theorem same_eq {a b : AV} (h : a.same b = true) : a = b := by
  unfold AV.same at h
  split at h
  · rw [sameLs_eq h]
  · rw [sameLs_eq h]
  · simp only [Bool.and_eq_true, beq_iff_eq] at h
    obtain ⟨⟨rfl, h1⟩, h2⟩ := h
    rw [sameLs_eq h1, sameLs_eq h2]
  · exact sames_eq h
theorem loadAts_get {ops : List Oper} {pre : List Nat} {i : Nat} {t : TypeId} {a v : AV} : ∀ (tr : List (List AV × Heap)) (p : Nat), loadAts C ops pre i t a v tr p = true → ∀ (q : Nat) x, tr[q]? = some x → isBd C ops (p + q) = true → mayAt C ops pre i (p + q) ops 0 = true → loadE C t a x.2 = some v
  | [], p, _, q, x, hx, _, _ => by simp at hx
  | (T, H) :: tr, p, h, q, x, hx, hb, hm => by
    simp only [loadAts, Bool.and_eq_true, Bool.or_eq_true, Bool.not_eq_true'] at h
    cases q with
    | zero =>
      simp at hx; subst hx
      simp only [Nat.add_zero] at hb hm
      rcases h.1 with h1 | h1
      · rw [hb, hm] at h1; cases h1
      · split at h1
        · rename_i v' hv
          rw [same_eq h1]; exact hv
        · cases h1
    | succ q =>
      simp at hx
      refine loadAts_get tr (p + 1) h.2 q x hx ?_ ?_
      · rw [show p + 1 + q = p + (q + 1) by omega]; exact hb
      · rw [show p + 1 + q = p + (q + 1) by omega]; exact hm
theorem allocAts_get {ops : List Oper} {pre : List Nat} {i A : Nat} {ty : TypeId} {cs : List AV} : ∀ (tr : List (List AV × Heap)) (p : Nat), allocAts C ops pre i A ty cs tr p = true → ∀ (q : Nat) x, tr[q]? = some x → isBd C ops (p + q) = true → i < p + q → mayAt C ops pre i (p + q) ops 0 = true → x.2.get A = .cells true ty cs
  | [], p, _, q, x, hx, _, _, _ => by simp at hx
  | (T, H) :: tr, p, h, q, x, hx, hb, hi, hm => by
    simp only [allocAts, Bool.and_eq_true, Bool.or_eq_true, Bool.not_eq_true'] at h
    cases q with
    | zero =>
      simp at hx; subst hx
      simp only [Nat.add_zero] at hb hm hi
      rcases h.1 with h1 | h1
      · rw [hb, hm] at h1; simp [hi] at h1
      · split at h1
        · rename_i ty' cs' hg
          simp only [Bool.and_eq_true, beq_iff_eq] at h1
          obtain ⟨rfl, h2⟩ := h1
          rw [sameLs_eq h2]; exact hg
        · cases h1
    | succ q =>
      simp at hx
      refine allocAts_get tr (p + 1) h.2 q x hx ?_ (by omega) ?_
      · rw [show p + 1 + q = p + (q + 1) by omega]; exact hb
      · rw [show p + 1 + q = p + (q + 1) by omega]; exact hm
theorem loadsOk_get {ops : List Oper} {pre : List Nat} {all : List (List AV × Heap)} : ∀ (os : List Oper) (tr : List (List AV × Heap)) (i : Nat), loadsOk C ops pre all os tr i = true → ∀ (k : Nat) (o : Oper) x, os[k]? = some o → tr[k]? = some x → ∀ t y, o.op = .load t y → Region.wanted o (ayielded ops x.1) = true →
    ∀ a v, opd x.1 y = some a → loadE C t a x.2 = some v → loadAts C ops pre (i + k) t a v all 0 = true
  | [], _, _, _, k, o, x, ho, _ => by simp at ho
  | _ :: _, [], _, _, k, o, x, _, hx => by simp at hx
  | z :: os, (T, H) :: tr, i, h, k, o, x, ho, hx => by
    intro t y hop hw a v ha hl
    simp only [loadsOk, Bool.and_eq_true] at h
    cases k with
    | zero =>
      simp at ho hx; subst ho; subst hx
      have h1 := h.1
      rw [hop] at h1
      simp only at h1 hw ha hl
      rw [if_pos hw, ha] at h1
      simp only [hl] at h1
      exact h1
    | succ k =>
      simp at ho hx
      have := loadsOk_get os tr (i + 1) h.2 k o x ho hx t y hop hw a v ha hl
      rw [show i + (k + 1) = i + 1 + k by omega]; exact this
theorem allocsOk_get {ops : List Oper} {pre : List Nat} {all : List (List AV × Heap)} : ∀ (os : List Oper) (tr : List (List AV × Heap)) (i : Nat), allocsOk C ops pre all os tr i = true → ∀ (k : Nat) (o : Oper) x, os[k]? = some o → tr[k]? = some x → kindOf C o.op = .alloc → Region.wanted o (ayielded ops x.1) = true →
    ∀ ty cs f, allocE C (opd x.1) o.op = some (.cells true ty cs, f) → allocAts C ops pre (i + k) x.2.n ty cs all 0 = true
  | [], _, _, _, k, o, x, ho, _ => by simp at ho
  | _ :: _, [], _, _, k, o, x, _, hx => by simp at hx
  | z :: os, (T, H) :: tr, i, h, k, o, x, ho, hx => by
    intro hop hw ty cs f ha
    simp only [allocsOk, Bool.and_eq_true] at h
    cases k with
    | zero =>
      simp at ho hx; subst ho; subst hx
      have h1 := h.1
      rw [hop] at h1
      simp only at h1 hw ha
      rw [if_pos hw, ha] at h1
      exact h1
    | succ k =>
      simp at ho hx
      have := allocsOk_get os tr (i + 1) h.2 k o x ho hx hop hw ty cs f ha
      rw [show i + (k + 1) = i + 1 + k by omega]; exact this
theorem monoOk_get : ∀ (tr : List (List AV × Heap)), monoOk tr = true → ∀ (i : Nat) x y, tr[i]? = some x → tr[i + 1]? = some y → x.2.n ≤ y.2.n
  | [], _, i, x, y, hx, _ => by simp at hx
  | [z], _, i, x, y, hx, hy => by simp at hy
  | z :: z' :: r, h, i, x, y, hx, hy => by
    simp only [monoOk, Bool.and_eq_true, decide_eq_true_eq] at h
    cases i with
    | zero =>
      simp at hx hy; subst hx; subst hy; exact h.1
    | succ i => exact monoOk_get (z' :: r) h.2 i x y (by simpa using hx) (by simpa using hy)
theorem draw_ok (hC : Ctx.Ok P C) (ih : Ih) (hih : IhOk P ih) : DrawSim P C ih := by
  intro ops tr T T' H H' htr hok hlast F n hF Q μ a w hT hH hq t
  obtain ⟨l1, l2, l3⟩ := trace_get ops.toList T H tr htr
  have hN : ops.toList.length = ops.size := by simp
  unfold drawOk at hok
  simp only [Bool.and_eq_true] at hok
  obtain ⟨⟨⟨o1, o2⟩, o3⟩, o4⟩ := hok
  obtain ⟨pre, hpre⟩ : ∃ pre, preList ops.toList [] = pre := ⟨_, rfl⟩
  rw [hpre] at o1 o2 o3
  obtain ⟨p1, p2, p3⟩ := preList_get ops.toList []
  rw [hpre] at p1 p2 p3
  simp only [List.length_nil, Nat.zero_add] at p2 p3
  obtain ⟨Tt, hTt⟩ : ∃ Tt : Nat → List AV, Tt = fun i => (tr.getD i (T, H)).1 := ⟨_, rfl⟩
  obtain ⟨Hh, hHh⟩ : ∃ Hh : Nat → Heap, Hh = fun i => (tr.getD i (T, H)).2 := ⟨_, rfl⟩
  have hx : ∀ (i : Nat) x, tr[i]? = some x → Tt i = x.1 ∧ Hh i = x.2 := fun i x e => by
    rw [hTt, hHh]; simp [List.getD, e]
  have hex : ∀ i, i ≤ ops.toList.length → tr[i]? = some (Tt i, Hh i) := fun i hi => by
    have : i < tr.length := by omega
    have e := List.getElem?_eq_getElem this
    obtain ⟨e1, e2⟩ := hx i _ e
    rw [e, e1, e2]
  have hmay : ∀ (i p : Nat), (∀ (j : Nat) (x : Oper), ops.toList[j]? = some x → kindOf C x.op = .eff → (((pre.getD i 0).testBit j = true) → j < p) ∧ (((pre.getD j 0).testBit i = true) → p ≤ j)) → mayAt C ops.toList pre i p ops.toList 0 = true := fun i p h =>
    mayAt_of ops.toList 0 fun k x hk he => by simpa using h k x hk he
  have trc : Trc C ih ops.toList Tt Hh (fun i j => (pre.getD j 0).testBit i = true) := by
    refine ⟨fun i o ho => ?_, fun i hi => ?_, fun j y hy => ?_, fun j y hy i hf => ?_, fun i j x y hij hx' hy hc => ?_, ?_, ?_⟩
    · obtain ⟨x, y, g1, g2, g3⟩ := l3 i o ho
      obtain ⟨e1, e2⟩ := hx _ _ g1
      obtain ⟨e3, e4⟩ := hx _ _ g2
      rw [e1, e2, e3, e4]; exact g3
    · exact monoOk_get tr o4 i _ _ (hex i (by omega)) (hex (i + 1) (by omega))
    · have := (orderOk_get ops.toList 0 o1 j y hy).2
      simpa using this
    · have hb := (orderOk_get ops.toList 0 o1 j y hy).2
      have hp := p3 j y hy
      have hg : pre.getD j 0 = preMask (pre.take j) y.after.toList := by simp [List.getD, hp]
      rw [hg] at hf
      obtain ⟨e, h1, h2, h3⟩ := preMask_bit hf
      have h1' : e ∈ y.after := by simpa using h1
      refine ⟨e, h1', h2, ?_⟩
      rcases h3 with h3 | h3
      · exact .inl h3
      · right
        have hlt := hb e h1' h2
        rw [Nat.zero_add] at hlt
        have : (pre.take j).getD e.on 0 = pre.getD e.on 0 := by simp [List.getD, List.getElem?_take, hlt]
        rw [this] at h3; exact h3
    · have := (orderOk_get ops.toList 0 o1 j y hy).1 i x (by omega) hx' hc
      simpa using this
    · intro i o t x ho hop hw a v ha hl p hp hbd hm
      have hi := (List.getElem?_eq_some_iff.1 ho).1
      have hat := loadsOk_get ops.toList tr 0 o2 i o _ ho (hex i (by omega)) t x hop hw a v ha hl
      rw [Nat.zero_add] at hat
      exact loadAts_get tr 0 hat p _ (hex p hp) (by rw [Nat.zero_add]; exact isBd_of hbd) (by rw [Nat.zero_add]; exact hmay i p hm)
    · intro i o ho hk hw ty cs f ha p hp hip hbd hm
      have hi := (List.getElem?_eq_some_iff.1 ho).1
      have hat := allocsOk_get ops.toList tr 0 o3 i o _ ho (hex i (by omega)) hk hw ty cs f ha
      rw [Nat.zero_add] at hat
      exact allocAts_get tr 0 hat p _ (hex p hp) (by rw [Nat.zero_add]; exact isBd_of hbd) (by omega) (by rw [Nat.zero_add]; exact hmay i p hm)
  have e0 := hx 0 _ l2
  have eN : Tt ops.size = T' ∧ Hh ops.size = H' := by
    have := lastOf_get tr _ hlast
    rw [l1, hN, Nat.add_sub_cancel] at this
    exact hx _ _ this
  have hT0 : VRs μ (Tt 0) a.tmps.toList := by rw [e0.1]; exact hT
  have hH0 : HR μ (Hh 0) w := by rw [e0.2]; exact hH
  have I0 := Inv.start trc hT0 hH0
  unfold Region.linearise
  refine draw_sim (a0 := a) (w0 := w) (μ0 := μ) hC hih trc hH0 hF ?_ ops.size t (Array.replicate ops.size false) a w 0 μ (by simp) ?_ ?_
  · rw [eN.1, eN.2, e0.2]; exact hq
  · have : ∀ (f : Nat → Bool) n, rem f n ≤ n := fun f n => by
      induction n with
      | zero => exact Nat.le_refl _
      | succ n ihn => simp only [rem]; split <;> omega
    exact this _ _
  · have : (fun i => (Array.replicate ops.size false).getD i false = true) = fun _ => False := funext fun i => by
      simp only [eq_iff_iff, iff_false, Array.getD_eq_getD_getElem?, Array.getElem?_replicate]
      split <;> simp
    rw [this]; exact I0
theorem sound (hC : Ctx.Ok P C) (n : Nat) : IhOk P (ev C n) := ev_ok hC (draw_ok hC) n
end Go.PI
namespace Go.PI
variable {P : Program} {C : Ctx}
structure TiOk (P : Program) (t : TypeId) (i : TI) : Prop where
  desc : P.underlying t = some i.desc
  info : (P.info? t).map (fun ti => (ti.size, ti.bytes, ti.zero.bind ofConst)) = some (i.size, i.bytes, some i.zero)
  len : i.zero.cells.length = i.size
theorem TiOk.ok {t : TypeId} {i : TI} (h : TiOk P t i) : P.underlying t = some i.desc ∧ ∃ ti z, P.info? t = some ti ∧ ti.size = i.size ∧ ti.bytes = i.bytes ∧ ti.zero = some z ∧ VR (fun _ => none) i.zero z ∧ i.zero.cells.length = i.size := by
  refine ⟨h.desc, ?_⟩
  obtain ⟨ti, h1, h2⟩ := Option.map_eq_some_iff.1 h.info
  simp only [Prod.mk.injEq] at h2
  obtain ⟨h3, h4, h5⟩ := h2
  obtain ⟨z, h6, h7⟩ := Option.bind_eq_some_iff.1 h5
  exact ⟨ti, z, h1, h3, h4, h6, ofConst_sim h7, h.len⟩
noncomputable def fiOf (fn : Func) : FI := ⟨fn.ntmps, fn.results.toList, fn.body.getD .skip⟩
def FiOk (P : Program) (f : FuncId) (i : FI) : Prop := ∃ fn, P.funcs[f]? = some fn ∧ fn.ntmps = i.ntmps ∧ fn.results.toList = i.results ∧ fn.body = some i.body ∧ (fn.name == "runtime.NumGoroutine") = false
theorem fiOk_of {f : FuncId} {fn : Func} (h : P.funcs[f]? = some fn) (hb : fn.body.isSome = true) (hn : (fn.name == "runtime.NumGoroutine") = false) : FiOk P f (fiOf fn) := by
  obtain ⟨b, hb⟩ := Option.isSome_iff_exists.1 hb
  exact ⟨fn, h, rfl, rfl, by simp [fiOf, hb], hn⟩
theorem ite_q {α : Type} {p : Prop} [Decidable p] {a b : Option α} {i : α} {Q : Prop} (ha : a = some i → Q) (hb : b = some i → Q) (h : (if p then a else b) = some i) : Q := by
  split at h
  · exact ha h
  · exact hb h
theorem leaf_q {α : Type} {f k : Nat} {c i : α} {Q : Nat → α → Prop} (hq : Q k c) (h : (if f = k then some c else none) = some i) : Q f i := by
  split at h
  · rename_i he
    cases h
    rw [he]
    exact hq
  · cases h
end Go.PI
/- A CALL MAY BE TOLD BY LESS THAN IT LEAVES: blocks that nothing names any more are dropped, new ones are numbered anew. -/
namespace Go.PI
variable {P : Program} {C : Ctx}
def Less (H : Heap) (v : AV) (H' : Heap) (v1 : AV) (H1 : Heap) : Prop :=
  ∀ (μ : M) (w : World) (u : Value) (w1 : World), HR μ H w → EffR μ H w v1 H1 u w1 → EffR μ H w v H' u w1
theorem Less.refl (H : Heap) (v : AV) (H' : Heap) : Less H v H' v H' := fun _ _ _ _ _ h => h
theorem Less.trans {H H1 H2 H3 : Heap} {v1 v2 v3 : AV} (a : Less H v1 H1 v2 H2) (b : Less H v2 H2 v3 H3) : Less H v1 H1 v3 H3 := fun μ w u w1 hH h => a μ w u w1 hH (b μ w u w1 hH h)
def Ctx.plus (C : Ctx) (S : FuncId → Option (List AV → Heap → Option (AV × Heap))) : Ctx := { C with sum := S }
inductive Ren (H1 : Heap) (ρ : Nat → Nat) (n : Nat) : AV → AV → Prop
  | int (k : IntKind) (i : Int) : Ren H1 ρ n (.int k i) (.int k i)
  | bool (b : Bool) : Ren H1 ρ n (.bool b) (.bool b)
  | str (s : ByteArray) : Ren H1 ρ n (.str s) (.str s)
  | nilp : Ren H1 ρ n .nilp .nilp
  | nils : Ren H1 ρ n .nils .nils
  | sle : Ren H1 ρ n .sle .sle
  | nilf : Ren H1 ρ n .nilf .nilf
  | nili : Ren H1 ρ n .nili .nili
  | ptr {b o : Nat} (h : b < n) : Ren H1 ρ n (.ptr b o) (.ptr (ρ b) o)
  | sl {b o l c : Nat} (h : b < n) : Ren H1 ρ n (.sl b o l c) (.sl (ρ b) o l c)
  | slu {b o l e : Nat} (h : b < n) : Ren H1 ρ n (.slu b o l e) (.slu (ρ b) o l e)
  | roomy {b o l c e : Nat} {rw : Bool} {ty : TypeId} {cs : List AV} (h : b < n) (hg : H1.get (ρ b) = .cells rw ty cs) (hc : o + c * e ≤ cs.length) (hl : l ≤ c) (hm : c ≤ maxLen) : Ren H1 ρ n (.slu b o l e) (.sl (ρ b) o l c)
  | none {b o c : Nat} : Ren H1 ρ n .sle (.sl b o 0 c)
  | none' {b o e : Nat} : Ren H1 ρ n .sle (.slu b o 0 e)
  | ifc {t : TypeId} {a b : AV} (h : Ren H1 ρ n a b) : Ren H1 ρ n (.ifc t a) (.ifc t b)
  | agg {as bs : List AV} (h : All2 (Ren H1 ρ n) as bs) : Ren H1 ρ n (.agg as) (.agg bs)
  | tup {as bs : List AV} (h : All2 (Ren H1 ρ n) as bs) : Ren H1 ρ n (.tup as) (.tup bs)
  | fn {f : Nat} {as bs cs ds : List AV} (h : All2 (Ren H1 ρ n) as bs) (k : All2 (Ren H1 ρ n) cs ds) : Ren H1 ρ n (.fn f as cs) (.fn f bs ds)
theorem Ren.vr {H1 : Heap} {ρ : Nat → Nat} {n : Nat} {μ1 μ' : M} {w1 : World} (hH : HR μ1 H1 w1) (hμ : ∀ A, A < n → μ' A = μ1 (ρ A)) {a b : AV} (h : Ren H1 ρ n a b) : ∀ {u : Value}, VR μ1 b u → VR μ' a u := by
  induction h using Ren.rec (motive_2 := fun as bs _ => ∀ {us : List Value}, VRs μ1 bs us → VRs μ' as us) with
  | int k i => intro u hu; cases hu; exact .int _ _
  | bool b => intro u hu; cases hu; exact .bool _
  | str s => intro u hu; cases hu; exact .str _
  | nilp => intro u hu; cases hu; exact .nilp
  | nils => intro u hu; cases hu; exact .nils
  | sle => intro u hu; cases hu; exact .sle _ _
  | nilf => intro u hu; cases hu; exact .nilf
  | nili => intro u hu; cases hu; exact .nili
  | ptr h => intro u hu; cases hu with | ptr hm => exact .ptr (by rw [hμ _ h]; exact hm)
  | sl h => intro u hu; cases hu with | sl hm => exact .sl (by rw [hμ _ h]; exact hm)
  | slu h => intro u hu; cases hu with
    | slu hm a b d => exact .slu (by rw [hμ _ h]; exact hm) a b d
    | sluz hm => exact .sluz (by rw [hμ _ h]; exact hm) _ _ _
  | roomy h hg hc hl hmx =>
    intro u hu
    cases hu with
    | sl hm =>
      obtain ⟨-, carr, fz, -, h3, h4, -, -⟩ := hH.cells hg hm
      exact .slu (by rw [hμ _ h]; exact hm) (by omega) hl hmx
  | none => intro u hu; cases hu with | sl hm => exact .sle _ _
  | none' => intro u hu; cases hu with
    | slu hm a b d => exact .sle _ _
    | sluz hm => exact .sle _ _
  | ifc _ ih => intro u hu; cases hu with | ifc h => exact .ifc (ih h)
  | agg _ ih => intro u hu; cases hu with | agg h => exact .agg (ih h)
  | tup _ ih => intro u hu; cases hu with | tup h => exact .tup (ih h)
  | fn _ _ i1 i2 => intro u hu; cases hu with | fn h k => exact .fn (i1 h) (i2 k)
  | nil => rename_i hus; cases hus; exact .nil
  | cons _ _ i1 i2 => rename_i hus; cases hus with | cons h k => exact .cons (i1 h) (i2 k)
theorem Rens.vr {H1 : Heap} {ρ : Nat → Nat} {n : Nat} {μ1 μ' : M} {w1 : World} (hH : HR μ1 H1 w1) (hμ : ∀ A, A < n → μ' A = μ1 (ρ A)) {as bs : List AV} (h : All2 (Ren H1 ρ n) as bs) : ∀ {us : List Value}, VRs μ1 bs us → VRs μ' as us := by
  induction h with
  | nil => intro us hu; cases hu; exact .nil
  | cons a _ ih => intro us hu; cases hu with | cons h k => exact .cons (Ren.vr hH hμ a h) (ih k)
inductive BlkLess (H1 : Heap) (ρ : Nat → Nat) (n : Nat) : Blk → Blk → Prop
  | dead (b : Blk) : BlkLess H1 ρ n .dead b
  | cells {rw : Bool} {ty : TypeId} {cs cs1 : List AV} (hl : cs.length ≤ cs1.length) (h : All2 (Ren H1 ρ n) cs (cs1.take cs.length)) : BlkLess H1 ρ n (.cells rw ty cs) (.cells rw ty cs1)
end Go.PI
/- THE SAME INTERPRETER, IN A FORM THAT THE KERNEL CAN RUN: what is known of the code stands in closed terms, which the kernel evaluates once. -/
namespace Go.PI
structure OB where
  f : List AV → Option AV
def decO : Operand → OB
  | .tmp t => ⟨fun T => some (T.getD t undefA)⟩
  | .const v => ⟨fun _ => ofConst v⟩
  | .global _ => ⟨fun _ => none⟩
  | .func g => ⟨fun _ => some (.fn g [] [])⟩
theorem decO_eq (x : Operand) (T : List AV) : (decO x).f T = opd T x := by cases x <;> rfl
structure LB where
  f : List AV → Option (List AV)
def decL : List Operand → LB
  | [] => ⟨fun _ => some []⟩
  | x :: xs => ⟨fun T => match (decO x).f T, (decL xs).f T with
    | some a, some as => some (a :: as)
    | _, _ => none⟩
theorem decL_eq (xs : List Operand) (T : List AV) : (decL xs).f T = opds (opd T) xs := by
  induction xs with
  | nil => rfl
  | cons x xs ih => simp only [decL, opds, decO_eq, ih]; cases opd T x <;> cases opds (opd T) xs <;> rfl
structure XB where
  f : Ih → List AV → Heap → Option (AV × Heap)
def withH (v : Option AV) (H : Heap) : Option (AV × Heap) :=
  match v with
  | some v => some (v, H)
  | none => none
def pickB (c a b : Option AV) : Option AV :=
  match c with
  | some (.bool true) => a
  | some (.bool false) => b
  | _ => none
def extrB (x : Option AV) (i : Nat) : Option AV :=
  match x with
  | some (.tup vs) => vs[i]?
  | _ => none
structure BB where
  f : AV → AV → Option AV
def intOnly (g : IntKind → Int → Int → Option AV) (other : AV → AV → Option AV) (a b : AV) : Option AV :=
  match a with
  | .int k m => match b with
    | .int k' n => if k = k' then g k m n else none
    | _ => none
  | _ => other a b
def decB (C : Ctx) (op : BinOp) (t : TypeId) (x y : Operand) : BB :=
  match op with
  | .add => ⟨intOnly (fun k m n => some (.int k (k.wrap (m + n)))) (binE C .add t x y)⟩
  | .sub => ⟨intOnly (fun k m n => some (.int k (k.wrap (m - n)))) (binE C .sub t x y)⟩
  | .mul => ⟨intOnly (fun k m n => some (.int k (k.wrap (m * n)))) (binE C .mul t x y)⟩
  | .eql => ⟨intOnly (fun _ m n => some (.bool (m == n))) (binE C .eql t x y)⟩
  | .neq => ⟨intOnly (fun _ m n => some (.bool (m != n))) (binE C .neq t x y)⟩
  | .lss => ⟨intOnly (fun _ m n => some (.bool (decide (m < n)))) (binE C .lss t x y)⟩
  | .leq => ⟨intOnly (fun _ m n => some (.bool (decide (m ≤ n)))) (binE C .leq t x y)⟩
  | .gtr => ⟨intOnly (fun _ m n => some (.bool (decide (m > n)))) (binE C .gtr t x y)⟩
  | .geq => ⟨intOnly (fun _ m n => some (.bool (decide (m ≥ n)))) (binE C .geq t x y)⟩
  | op => ⟨fun a b => binE C op t x y a b⟩
theorem decB_eq (C : Ctx) (op : BinOp) (t : TypeId) (x y : Operand) (a b : AV) : (decB C op t x y).f a b = binE C op t x y a b := by
  cases op <;> first | rfl | (cases a <;> first | rfl | (cases b <;> rfl))
def bin2 (g : BB) (a b : Option AV) : Option AV :=
  match a with
  | some a => match b with
    | some b => g.f a b
    | none => none
  | none => none
theorem bin2_eq (C : Ctx) (ρ : Operand → Option AV) (op : BinOp) (t : TypeId) (x y : Operand) (z) : bin2 (decB C op t x y) (ρ x) (ρ y) = pureE C ρ (.binOp op t x y z) := by
  simp only [pureE, bin2]
  cases ρ x <;> cases ρ y <;> simp only [decB_eq]
def load1 (C : Ctx) (t : TypeId) (a : Option AV) (H : Heap) : Option (AV × Heap) :=
  match a with
  | some a => withH (loadE C t a H) H
  | none => none
def unB (op : UnOp) (x : Option AV) : Option AV :=
  match op, x with
  | .neg, some (.int k n) => some (.int k (k.wrap (0 - n)))
  | .not, some (.bool b) => some (.bool (!b))
  | _, _ => none
def idxB (C : Ctx) (ti : Option TI) (x i : Option AV) : Option AV :=
  match ti, x, i with
  | some { desc := .slice e, .. }, some (.sl b o len _), some (.int _ n) => match C.ty e with
    | some ei => if 0 ≤ n ∧ n < len then some (.ptr b (o + n.toNat * ei.size)) else none
    | none => none
  | some { desc := .slice e, .. }, some (.slu b o len _), some (.int _ n) => match C.ty e with
    | some ei => if 0 ≤ n ∧ n < len then some (.ptr b (o + n.toNat * ei.size)) else none
    | none => none
  | some { desc := .array len e, .. }, some (.ptr b o), some (.int _ n) => match C.ty e with
    | some ei => if 0 ≤ n ∧ n < len then some (.ptr b (o + n.toNat * ei.size)) else none
    | none => none
  | _, _, _ => none
def store2 (C : Ctx) (t : TypeId) (a v : Option AV) (H : Heap) : Option (AV × Heap) :=
  match a with
  | some a => match v with
    | some v => match storeE C t a v H with
      | some H' => some (undefA, H')
      | none => none
    | none => none
  | none => none
def callX (C : Ctx) (ih : Ih) (g : FuncId) (as : Option (List AV)) (H : Heap) : Option (AV × Heap) :=
  match as with
  | some as => callF C ih g as H
  | none => none
def lenX (C : Ctx) (ts : List TypeId) (as : Option (List AV)) : Option AV :=
  match as with
  | some as => builtinP C .len ts as
  | none => none
def appX (C : Ctx) (ts : List TypeId) (as : Option (List AV)) (H : Heap) : Option (AV × Heap) :=
  match as with
  | some [s, x] => appendE C ts s x H
  | _ => none
def sliceX (C : Ctx) (ti : Option TI) (lo hi : Option OB) (T : List AV) (x : Option AV) : Option AV :=
  match ti, x with
    | some { desc := .string, .. }, some (.str s) =>
      match (match hi with | some h => bound (h.f T) s.size | none => some s.size) with
      | some h => match (match lo with | some l => bound (l.f T) h | none => some 0) with
        | some l => some (.str (s.extract l h))
        | none => none
      | none => none
    | some { desc := .slice e, .. }, some (.sl b o len cap) => match C.ty e with
      | none => none
      | some ei =>
        match (match hi with | some h => bound (h.f T) cap | none => some len) with
        | some h => match (match lo with | some l => bound (l.f T) h | none => some 0) with
          | some l => some (.sl b (if cap = l then o else o + l * ei.size) (h - l) (cap - l))
          | none => none
        | none => none
    | some { desc := .slice e, .. }, some (.slu b o len esz) => match C.ty e with
      | none => none
      | some ei =>
        match (match hi with | some h => bound (h.f T) len | none => some len) with
        | some h => match (match lo with | some l => bound (l.f T) h | none => some 0) with
          | some l => if esz = ei.size then some (.slu b (o + l * ei.size) (h - l) esz) else if h = l ∧ 0 < l then some .sle else if l = 0 then some (.slu b o h esz) else none
          | none => none
        | none => none
    | some { desc := .slice e, .. }, some .nils =>
      if (C.ty e).isNone then none else
      match (match hi with | some h => bound (h.f T) 0 | none => some 0) with
      | some h => match (match lo with | some l => bound (l.f T) h | none => some 0) with
        | some _ => some .nils
        | none => none
      | none => none
    | some { desc := .slice e, .. }, some .sle =>
      if (C.ty e).isNone then none else
      match (match hi with | some h => bound (h.f T) 0 | none => some 0) with
      | some h => match (match lo with | some l => bound (l.f T) h | none => some 0) with
        | some _ => some .sle
        | none => none
      | none => none
    | some { desc := .array n e, .. }, some (.ptr b o) => match C.ty e with
      | none => none
      | some ei =>
        match (match hi with | some h => bound (h.f T) n | none => some n) with
        | some h => match (match lo with | some l => bound (l.f T) h | none => some 0) with
          | some l => some (.sl b (if n = l then o else o + l * ei.size) (h - l) (n - l))
          | none => none
        | none => none
    | _, _ => none
def decX (C : Ctx) (o : Oper) : XB :=
  match o.op with
  | .move x => ⟨fun _ T H => withH ((decO x).f T) H⟩
  | .assign x => ⟨fun _ T H => withH ((decO x).f T) H⟩
  | .pick c a b => ⟨fun _ T H => withH (pickB ((decO c).f T) ((decO a).f T) ((decO b).f T)) H⟩
  | .binOp op t x y _ => ⟨fun _ T H => withH (bin2 (decB C op t x y) ((decO x).f T) ((decO y).f T)) H⟩
  | .extract t i => ⟨fun _ T H => withH (extrB ((decO t).f T) i) H⟩
  | .load t a => ⟨fun _ T H => load1 C t ((decO a).f T) H⟩
  | .unOp op _ x => ⟨fun _ T H => withH (unB op ((decO x).f T)) H⟩
  | .indexAddr t x i => ⟨fun _ T H => withH (idxB C (C.ty t) ((decO x).f T) ((decO i).f T)) H⟩
  | .store t a v => ⟨fun _ T H => store2 C t ((decO a).f T) ((decO v).f T) H⟩
  | .call { callee := .value (.func g), args, argTypes := _ } => ⟨fun ih T H => callX C ih g ((decL args.toList).f T) H⟩
  | .call { callee := .builtin .len, args, argTypes } => match isMap C argTypes.toList with
    | false => ⟨fun _ T H => withH (lenX C argTypes.toList ((decL args.toList).f T)) H⟩
    | true => ⟨fun ih T H => execE C ih T o H⟩
  | .call { callee := .builtin .append, args, argTypes } => ⟨fun _ T H => appX C argTypes.toList ((decL args.toList).f T) H⟩
  | .slice t x lo hi none => ⟨fun _ T H => withH (sliceX C (C.ty t) (lo.map decO) (hi.map decO) T ((decO x).f T)) H⟩
  | _ => ⟨fun ih T H => execE C ih T o H⟩
theorem decX_eq (C : Ctx) (ih : Ih) (T : List AV) (o : Oper) (H : Heap) : (decX C o).f ih T H = execE C ih T o H := by
  have hp : ∀ (v : Option AV), kindOf C o.op = .pure → pureE C (opd T) o.op = v → withH v H = execE C ih T o H := by
    intro v h1 h2
    simp only [execE, h1, h2, withH]
    cases v <;> rfl
  unfold decX
  split
  case h_4 op t x y z h =>
    refine hp _ (by rw [h]; rfl) ?_
    rw [h, decO_eq, decO_eq]
    exact (bin2_eq C (opd T) op t x y z).symm
  case h_6 t a h =>
    simp only [execE, h, kindOf, decO_eq, load1, withH]
    cases opd T a <;> rfl
  case h_7 op t x h =>
    refine hp _ (by rw [h]; rfl) ?_
    rw [h, decO_eq]
    rfl
  case h_8 t x i h =>
    refine hp _ (by rw [h]; rfl) ?_
    rw [h, decO_eq, decO_eq]
    rfl
  case h_9 t a v h =>
    simp only [execE, h, kindOf, decO_eq, effE, store2]
    cases opd T a <;> cases opd T v <;> rfl
  case h_10 g args ts h =>
    simp only [execE, h, kindOf, decL_eq, effE, callX, opd]
    cases opds (opd T) args.toList <;> simp
  case h_11 args ts h =>
    split
    · rename_i hm
      refine hp _ (by rw [h]; simp [kindOf, hm]) ?_
      rw [h, decL_eq]
      rfl
    · rfl
  case h_12 args ts h =>
    simp only [execE, h, kindOf, decL_eq, effE, appX]
    rfl
  case h_13 t x lo hi h =>
    refine hp _ (by rw [h]; rfl) ?_
    rw [h, decO_eq]
    cases lo <;> cases hi <;> simp only [Option.map, sliceX, pureE, decO_eq] <;> rfl
  case h_14 => rfl
  all_goals
    rename_i h
    refine hp _ (by rw [h]; rfl) ?_
    rw [h]
    simp only [decO_eq]
    rfl
structure SB where
  f : Ih → List AV → Heap → Option (List AV × Heap)
def putX (r : Option (AV × Heap)) (dst : Option Tmp) (T : List AV) : Option (List AV × Heap) :=
  match r with
  | some (v, H') => some (putT T dst v, H')
  | none => none
def decS (C : Ctx) (ops : List Oper) (o : Oper) : SB :=
  match o.guard with
  | none => ⟨fun ih T H => putX ((decX C o).f ih T H) o.dst T⟩
  | some _ => ⟨fun ih T H => cond (Region.wanted o (ayielded ops T)) (putX ((decX C o).f ih T H) o.dst T) (some (putT T o.dst undefA, H))⟩
def decR (C : Ctx) (ops : List Oper) : List Oper → SB
  | [] => ⟨fun _ T H => some (T, H)⟩
  | o :: rest => ⟨fun ih T H => match (decS C ops o).f ih T H with
    | some (T', H') => (decR C ops rest).f ih T' H'
    | none => none⟩
structure TB where
  f : Ih → List AV → Heap → Option (List (List AV × Heap))
def decT (C : Ctx) (ops : List Oper) : List Oper → TB
  | [] => ⟨fun _ T H => some [(T, H)]⟩
  | o :: rest => ⟨fun ih T H => match (decS C ops o).f ih T H with
    | some (T', H') => match (decT C ops rest).f ih T' H' with
      | some tr => some ((T, H) :: tr)
      | none => none
    | none => none⟩
structure CB where
  f : Ih → Nat → Option Nat → St → Option (Ex × St)
def thenX (r : Option (Ex × St)) (k : St → Option (Ex × St)) : Option (Ex × St) :=
  match r with
  | some (.normal, s') => k s'
  | r => r
def condX (c : Option AV) (x y : Option (Ex × St)) : Option (Ex × St) :=
  match c with
  | some (.bool true) => x
  | some (.bool false) => y
  | _ => none
def blockX (id : Nat) (r : Option (Ex × St)) : Option (Ex × St) :=
  match r with
  | some (.exit i, s') => if i = id then some (.normal, s') else some (.exit i, s')
  | r => r
def regX (r : Option (List AV × Heap)) (D : List Nat) : Option (Ex × St) :=
  match r with
  | some (T', H') => some (.normal, ⟨T', H', D⟩)
  | none => none
def drawX (C : Ctx) (ops : List Oper) (r : Option (List (List AV × Heap))) (D : List Nat) : Option (Ex × St) :=
  match r with
  | some tr => if drawOk C ops tr then
      (match lastOf tr with
       | some (T', H') => some (.normal, ⟨T', H', D⟩)
       | none => none) else none
  | none => none
def comp (C : Ctx) : Code → CB
  | .skip => ⟨fun _ _ _ s => some (.normal, s)⟩
  | .label _ => ⟨fun _ _ _ s => some (.normal, s)⟩
  | .seq a b => ⟨fun ih _ rd s => thenX (ih rd a s) (fun s' => ih rd b s')⟩
  | .cond c a b => ⟨fun ih _ rd s => condX ((decO c).f s.T) (ih rd a s) (ih rd b s)⟩
  | .block id b => ⟨fun ih _ rd s => blockX id (ih rd b s)⟩
  | .loop b => ⟨fun ih k rd s => loopF ih rd b k s⟩
  | .exit id => ⟨fun _ _ _ s => some (.exit id, s)⟩
  | .goto l => ⟨fun _ _ _ s => some (.goto l, s)⟩
  | .ret => ⟨fun _ _ _ s => some (.ret, s)⟩
  | .region _ ops draw => match draw with
    | true => ⟨fun ih _ _ s => drawX C ops.toList ((decT C ops.toList ops.toList).f ih s.T s.H) s.D⟩
    | false => ⟨fun ih _ _ s => regX ((decR C ops.toList ops.toList).f ih s.T s.H) s.D⟩
  | c => ⟨fun ih k rd s => evF C ih k rd c s⟩
end Go.PI
