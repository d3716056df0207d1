/- Own work of the verifier: PiDraw3 PiDraw4 PiDraw5. -/
import Derived.Test.YtefajaiioljjoaaOwAG
set_option linter.all false
set_option exponentiation.threshold 3000
set_option linter.deprecated false
namespace Go.PI
variable {P : Program} {C : Ctx}
theorem allocE_cells {ρ : Operand → Option AV} {op : Op} {b : Blk} {f : Nat → AV} (h : allocE C ρ op = some (b, f)) : ∃ ty cs, b = .cells true ty cs := by
  cases op <;> simp only [allocE] at h <;> try (cases h; done)
  · split at h
    · cases h; exact ⟨_, _, rfl⟩
    · cases h
  · split at h
    · cases h; exact ⟨_, _, rfl⟩
    · cases h
  · split at h
    · split at h
      · split at h
        · cases h
        · split at h
          · cases h; exact ⟨_, _, rfl⟩
          · cases h
      · cases h
    · cases h
  · split at h
    · split at h
      · split at h
        · cases h; exact ⟨_, _, rfl⟩
        · cases h
      · cases h
    · cases h
theorem M.cut_get {μ : M} {n A : Nat} (h : A < n) : (μ.cut n) A = μ A := by unfold M.cut; rw [if_pos h]
theorem M.cut_some {μ : M} {n A : Nat} {b : BI} (h : (μ.cut n) A = some b) : A < n ∧ μ A = some b := by
  unfold M.cut at h; split at h
  · exact ⟨‹_›, h⟩
  · cases h
section
variable {ih : Ih} {L : List Oper} {Tt : Nat → List AV} {Hh : Nat → Heap} {fc : Nat → Nat → Prop}
variable {μ0 : M} {w0 : World} {a0 : Act} {S : Nat → Prop} {a : Act} {w : World} {p : Nat} {μ : M} {k : Nat} {o : Oper}
theorem Inv.ops_put (tr : Trc C ih L Tt Hh fc) (I : Inv C L Tt Hh μ0 w0 a0 S a w p μ) (R : Ready L S k o) {p' : Nat} {μ' : M} {u : Value} {v : AV} (hT : Tt (k + 1) = putT (Tt k) o.dst v) (hle : M.le μ μ') (hpp : (Hh p).n ≤ (Hh p').n)
    (hvr : VR (μ'.cut (max (Hh (k + 1)).n (Hh p').n)) v u) : ∀ j, j ≤ L.length → ∀ t, (∀ (i : Nat) (x : Oper), L[i]? = some x → x.dst = some t → (i < j → (S i ∨ i = k)) ∧ (j ≤ i → ¬ (S i ∨ i = k))) → ∀ v', (Tt j)[t]? = some v' →
      ∃ u', (a.put o.dst u).tmps[t]? = some u' ∧ VR (μ'.cut (max (Hh j).n (Hh p').n)) v' u' := by
  intro j hj t hc v' hv'
  by_cases ht : o.dst = some t
  · have hck := hc k o R.ho ht
    have hkj : k < j := by
      rcases Nat.lt_or_ge k j with h | h
      · exact h
      · exact absurd (.inr rfl) (hck.2 h)
    have hfr : (Tt j)[t]? = (Tt (k + 1))[t]? := tr.frames_T (by omega) hj fun i x h1 h2 hx hd => by
      have hS : S i := ((hc i x hx hd).1 h2).resolve_right (by omega)
      exact I.after tr R (by omega) hx (clash_same ht hd) hS
    have hlen : (Tt k).length = a.tmps.size := (tr.len_T k (by omega)).trans I.len.symm
    have htl : t < (Tt k).length := by
      have := (List.getElem?_eq_some_iff.1 hv').1
      rw [tr.len_T j hj] at this
      rw [tr.len_T k (by omega)]; exact this
    rw [hfr, hT, ht] at hv'
    simp only [putT] at hv'
    rw [List.getElem?_set_self htl] at hv'
    cases hv'
    have hts : t < a.tmps.size := by rw [← hlen]; exact htl
    refine ⟨u, by rw [ht]; simp [Act.put, hts], hvr.mono (M.cut_mono (M.le.refl _) ?_)⟩
    have := tr.monos (i := k + 1) (j := j) (by omega) hj
    omega
  · obtain ⟨u', h1, h2⟩ := I.ops j hj t (fun i x hx hd => by
      have hik : i ≠ k := fun e => by subst e; rw [R.ho] at hx; cases hx; exact ht hd
      obtain ⟨c1, c2⟩ := hc i x hx hd
      exact ⟨fun h => (c1 h).resolve_right hik, fun h hs => c2 h (.inl hs)⟩) v' hv'
    refine ⟨u', ?_, h2.mono (M.cut_mono hle (by omega))⟩
    cases hd : o.dst with
    | none => exact h1
    | some d =>
      have : d ≠ t := fun e => ht (by rw [hd, e])
      simp only [Act.put]
      rw [Array.getElem?_setIfInBounds_ne this]; exact h1
theorem put_size (a : Act) (d : Option Tmp) (u : Value) : (a.put d u).tmps.size = a.tmps.size := by cases d <;> simp [Act.put]
theorem Inv.noEff (tr : Trc C ih L Tt Hh fc) (I : Inv C L Tt Hh μ0 w0 a0 S a w p μ) (R : Ready L S k o) (hk : kindOf C o.op = .eff) : p ≤ k ∧ ∀ i x, p ≤ i → i < k → L[i]? = some x → kindOf C x.op ≠ .eff := by
  refine ⟨?_, fun i x h1 h2 hx he => ?_⟩
  · rcases Nat.lt_or_ge k p with h | h
    · exact absurd ((I.eff k o R.ho hk).2 h) R.hn
    · exact h
  · have := I.before tr R h2 hx (clash_eff he hk)
    have := (I.eff i x hx he).1 this
    omega
theorem Inv.noEff2 (tr : Trc C ih L Tt Hh fc) (I : Inv C L Tt Hh μ0 w0 a0 S a w p μ) (R : Ready L S k o) (hk : kindOf C o.op = .look) : p ≤ k ∧ ∀ i x, p ≤ i → i < k → L[i]? = some x → kindOf C x.op ≠ .eff := by
  refine ⟨?_, fun i x h1 h2 hx he => ?_⟩
  · rcases Nat.lt_or_ge k p with h | h
    · rcases I.bd with h0 | ⟨o', h1, h2⟩
      · omega
      · have hSp : S (p - 1) := (I.eff (p - 1) o' h1 h2).2 (by omega)
        have hne : k ≠ p - 1 := fun e => by subst e; rw [R.ho] at h1; cases h1; rw [hk] at h2; cases h2
        exact absurd hSp (I.after tr R (by omega) h1 (clash_le hk h2))
    · exact h
  · have := I.before tr R h2 hx (clash_el he hk)
    have := (I.eff i x hx he).1 this
    omega
set_option maxHeartbeats 400000 in
theorem Inv.eff_done (tr : Trc C ih L Tt Hh fc) (I : Inv C L Tt Hh μ0 w0 a0 S a w p μ) (R : Ready L S k o) (hke : kindOf C o.op = .eff) {μ1 : M} {w' : World} {v : AV} {u : Value} (hHR : PI.HR μ1 (Hh (k + 1)) w') (hFr : Fr (μ.cut (Hh k).n) (Hh k) w μ1 (Hh (k + 1)) w')
    (hT : Tt (k + 1) = putT (Tt k) o.dst v) (hv : VR μ1 v u) : Inv C L Tt Hh μ0 w0 a0 (fun i => S i ∨ i = k) (a.put o.dst u) w' (k + 1) (fun A => if A < (Hh (k + 1)).n then μ1 A else μ A) := by
  obtain ⟨hpk, hno⟩ := I.noEff tr R hke
  have hkl : k < L.length := (List.getElem?_eq_some_iff.1 R.ho).1
  obtain ⟨q1, q2, q3⟩ := tr.quiet hpk (by omega) hno
  have hm1 : (Hh p).n ≤ (Hh k).n := tr.monos hpk (by omega)
  have hm2 : (Hh k).n ≤ (Hh (k + 1)).n := tr.mono k hkl
  have hactk : ∀ i, Act1 C L Tt i → i < k → (Hh i).n < (Hh k).n := fun i ha hi => by
    have := tr.act_n ha
    have := tr.monos (i := i + 1) (j := k) hi (by omega)
    omega
  have hactne : ∀ i, Act1 C L Tt i → i ≠ k := fun i ha e => by
    obtain ⟨x, h1, h2, -⟩ := ha
    subst e; rw [R.ho] at h1; cases h1; rw [hke] at h2; cases h2
  have hact1 : ∀ i, Act1 C L Tt i → k < i → (Hh (k + 1)).n ≤ (Hh i).n := fun i ha hi => tr.monos hi (Nat.le_of_lt (tr.act_lt ha))
  have hgap : ∀ A b, μ A = some b → A < (Hh k).n ∨ (Hh (k + 1)).n ≤ A := fun A b e => by
    rcases Nat.lt_or_ge A (Hh k).n with h | h
    · exact .inl h
    · obtain ⟨i, h1, h2, h3, h4⟩ := I.dom A b (by omega) e
      rcases Nat.lt_trichotomy i k with hi | hi | hi
      · have := hactk i h3 hi; omega
      · exact absurd hi (hactne i h3)
      · right; rw [h4]; exact hact1 i h3 hi
  obtain ⟨μ', hμ'⟩ : ∃ μ' : M, (fun A => if A < (Hh (k + 1)).n then μ1 A else μ A) = μ' := ⟨_, rfl⟩
  rw [hμ']
  have hlow : ∀ A, A < (Hh (k + 1)).n → μ' A = μ1 A := fun A h => by rw [← hμ']; simp only; rw [if_pos h]
  have hhigh : ∀ A, (Hh (k + 1)).n ≤ A → μ' A = μ A := fun A h => by rw [← hμ']; simp only; rw [if_neg (by omega)]
  have hle : M.le μ μ' := fun A b e => by
    rcases hgap A b e with h | h
    · rw [hlow A (by omega)]
      exact hFr.le A b (by rw [M.cut_get h]; exact e)
    · rw [hhigh A h]; exact e
  have hcut : μ'.cut (Hh (k + 1)).n = μ1 := funext fun A => by
    rcases Nat.lt_or_ge A (Hh (k + 1)).n with h | h
    · rw [M.cut_get h, hlow A h]
    · unfold M.cut; rw [if_neg (by omega)]; exact (hHR.dom A h).symm
  have hkget : ∀ A, A < (Hh p).n → (Hh k).get A = (Hh p).get A := q1
  have hkown : ∀ A, (Hh p).n ≤ A → A < (Hh k).n → ((Hh k).get A).own = true := fun A h1 h2 => by
    obtain ⟨i, r1, r2, ⟨x, t1, t2, t3⟩, r4⟩ := q2 A h1 h2
    obtain ⟨b, f, t4, -⟩ := tr.alloc_step t1 t2 t3
    obtain ⟨ty, cs, hb⟩ := allocE_cells t4
    rw [r4, q3 i x r1 r2 t1 t2 t3 b f t4, hb]; rfl
  have hnotown : ∀ i bi, k + 1 ≤ i → Act1 C L Tt i → S i → μ (Hh i).n = some bi → ¬ Own (μ.cut (Hh k).n) (Hh k) bi.c := fun i bi h1 h2 h3 h4 => by
    rintro ⟨A, x, ho, hm, hc⟩
    obtain ⟨hA, hmA⟩ := M.cut_some hm
    have := hact1 i h2 (by omega)
    exact I.dist i bi (by omega) h2 h3 h4 A x (by omega) hmA (fun hAp => by rw [← hkget A hAp]; exact Blk.live_of_own ho) hc
  have hearly : ∀ (i : Nat) (x : Oper), k + 1 ≤ i → L[i]? = some x → kindOf C x.op = .alloc → Region.wanted x (ayielded L (Tt i)) = true → S i → ∀ b f, allocE C (opd (Tt i)) x.op = some (b, f) → ∃ bi, μ (Hh i).n = some bi ∧ μ' (Hh i).n = some bi ∧ bi.c < w.heap.size ∧ w'.heap[bi.c]? = w.heap[bi.c]? ∧ BlkR (μ.cut (Hh i).n) w bi b := fun i x h1 hx t2 t3 hs b f hb => by
    obtain ⟨bi, e1, e2, e3⟩ := I.early i x (by omega) hx t2 t3 hs b f hb
    exact ⟨bi, e1, hle _ _ e1, e2, (hFr.keep bi.c e2 (hnotown i bi h1 ⟨x, hx, t2, t3⟩ hs e1)).1, e3⟩
  refine { hp := hkl, bd := .inr ⟨o, R.ho, hke⟩, eff := ?_, cl := ?_, HR := by rw [hcut]; exact hHR, dom := ?_, pend := ?_, early := ?_, dist := ?_, ops := ?_, len := by rw [put_size]; exact I.len, defs := by rw [put_defers]; exact I.defs, le0 := I.le0.trans hle, eq0 := ?_, os := hFr.os.trans I.os, tape := hFr.tape.trans I.tape, output := hFr.output.trans I.output, size := Nat.le_trans I.size hFr.size, keep := ?_, ro := ?_ }
  · intro j y hy hje
    constructor
    · rintro (hs | rfl)
      · rcases Nat.lt_or_ge k j with h | h
        · exact absurd hs (I.after tr R h hy (clash_eff hke hje))
        · omega
      · omega
    · intro h
      rcases Nat.lt_or_ge j k with h' | h'
      · exact .inl (I.before tr R h' hy (clash_eff hje hke))
      · exact .inr (by omega)
  · rintro j y hy (hs | rfl) e he hb
    · exact .inl (I.cl j y hy hs e he hb)
    · rw [R.ho] at hy; cases hy
      exact .inl (R.dep e he hb)
  · intro A b hA hm
    rw [hhigh A hA] at hm
    obtain ⟨i, h1, h2, h3, h4⟩ := I.dom A b (by omega) hm
    refine ⟨i, ?_, .inl h2, h3, h4⟩
    rcases Nat.lt_trichotomy i k with hi | hi | hi
    · have := hactk i h3 hi; omega
    · exact absurd hi (hactne i h3)
    · omega
  · intro i hi ha hn
    have hik := hactne i ha
    have hns : ¬ S i := fun h => hn (.inl h)
    have hlt := hactk i ha (by omega)
    rw [hlow _ (by omega), hFr.eq _ hlt, M.cut_get hlt]
    rcases Nat.lt_or_ge i p with h | h
    · exact I.pend i h ha hns
    · exact I.dom_none tr h ha hns
  · intro i x hi hx t2 t3 hs b f hb
    have hs' : S i := hs.resolve_right (by omega)
    obtain ⟨bi, e1, e2, e3, e4, e5⟩ := hearly i x hi hx t2 t3 hs' b f hb
    exact ⟨bi, e2, Nat.lt_of_lt_of_le e3 hFr.size, e5.mono (M.cut_mono hle (Nat.le_refl _)) e4⟩
  · intro i bi hi ha hs hm A b hA hmA hlive
    have hs' : S i := hs.resolve_right (by omega)
    have hin := hact1 i ha (by omega)
    rw [hhigh _ hin] at hm
    have hno' := hnotown i bi hi ha hs' hm
    have hbl : bi.c < w.heap.size := by
      obtain ⟨x, t1, t2, t3⟩ := ha
      obtain ⟨blk, f, t4, -⟩ := tr.alloc_step t1 t2 t3
      obtain ⟨bi', e1, -, e3, -⟩ := hearly i x hi t1 t2 t3 hs' blk f t4
      rw [hm] at e1; cases e1; exact e3
    rcases Nat.lt_or_ge A (Hh (k + 1)).n with h | h
    · rw [hlow A h] at hmA
      have hl := hlive h
      cases ho : ((Hh (k + 1)).get A).own with
      | true =>
        intro e
        exact (hFr.keep bi.c hbl hno').2 ⟨A, b, ho, hmA, e⟩
      | false =>
        obtain ⟨r1, r2⟩ := hFr.ro A hl ho
        rw [hFr.eq A r1, M.cut_get r1] at hmA
        refine I.dist i bi (by omega) ha hs' hm A b (by omega) hmA fun hAp => ?_
        rw [← hkget A hAp, ← r2]; exact hl
    · rw [hhigh A h] at hmA
      exact I.dist i bi (by omega) ha hs' hm A b hA hmA fun hAp => by omega
  · exact I.ops_put tr R hT hle (by omega) (by rw [Nat.max_self, hcut]; exact hv)
  · intro A hA
    have : (Hh 0).n ≤ (Hh k).n := tr.monos (Nat.zero_le _) (by omega)
    rw [hlow A (by omega), hFr.eq A (by omega), M.cut_get (by omega)]
    exact I.eq0 A hA
  · intro c hc hno0
    obtain ⟨k1, k2, k3⟩ := I.keep c hc hno0
    have hnk : ¬ Own (μ.cut (Hh k).n) (Hh k) c := by
      rintro ⟨A, x, ho, hm, hcc⟩
      obtain ⟨hA, hmA⟩ := M.cut_some hm
      rcases Nat.lt_or_ge A (Hh p).n with h | h
      · exact k2 ⟨A, x, by rw [← hkget A h]; exact ho, by rw [M.cut_get h]; exact hmA, hcc⟩
      · obtain ⟨i, s1, s2, s3, s4⟩ := I.dom A x h hmA
        exact k3 i x s1 s3 s2 (s4 ▸ hmA) hcc
    obtain ⟨g1, g2⟩ := hFr.keep c (Nat.lt_of_lt_of_le hc I.size) hnk
    refine ⟨g1.trans k1, by rw [hcut]; exact g2, fun i bi hi ha hs hm => ?_⟩
    rw [hhigh _ (hact1 i ha (by omega))] at hm
    exact k3 i bi (by omega) ha (hs.resolve_right (by omega)) hm
  · intro A hl ho
    obtain ⟨r1, r2⟩ := hFr.ro A hl ho
    rw [r2] at hl ho ⊢
    rcases Nat.lt_or_ge A (Hh p).n with h | h
    · rw [hkget A h] at hl ho ⊢
      exact I.ro A hl ho
    · rw [hkown A h r1] at ho; cases ho
end
end Go.PI
namespace Go.PI
variable {P : Program} {C : Ctx}
section
variable {ih : Ih} {L : List Oper} {Tt : Nat → List AV} {Hh : Nat → Heap} {fc : Nat → Nat → Prop}
variable {μ0 : M} {w0 : World} {a0 : Act} {S : Nat → Prop} {a : Act} {w : World} {p : Nat} {μ : M} {k : Nat} {o : Oper}
theorem Inv.still_done (tr : Trc C ih L Tt Hh fc) (I : Inv C L Tt Hh μ0 w0 a0 S a w p μ) (R : Ready L S k o) (hke : kindOf C o.op ≠ .eff) (hna : ¬ Act1 C L Tt k) {v : AV} {u : Value}
    (hT : Tt (k + 1) = putT (Tt k) o.dst v) (hv : VR (μ.cut (max (Hh (k + 1)).n (Hh p).n)) v u) : Inv C L Tt Hh μ0 w0 a0 (fun i => S i ∨ i = k) (a.put o.dst u) w p μ where
  hp := I.hp
  bd := I.bd
  eff := fun j y hy hje => by
    rw [← I.eff j y hy hje]
    constructor
    · rintro (hs | rfl)
      · exact hs
      · rw [R.ho] at hy; cases hy; exact absurd hje hke
    · exact .inl
  cl := fun j y hy hs e he hb => by
    rcases hs with hs | rfl
    · exact .inl (I.cl j y hy hs e he hb)
    · rw [R.ho] at hy; cases hy; exact .inl (R.dep e he hb)
  HR := I.HR
  dom := fun A b h1 h2 => by
    obtain ⟨i, q1, q2, q3, q4⟩ := I.dom A b h1 h2
    exact ⟨i, q1, .inl q2, q3, q4⟩
  pend := fun i h1 h2 h3 => I.pend i h1 h2 fun h => h3 (.inl h)
  early := fun i x h1 h2 h3 h4 h5 => by
    rcases h5 with h5 | rfl
    · exact I.early i x h1 h2 h3 h4 h5
    · exact absurd ⟨x, h2, h3, h4⟩ hna
  dist := fun i bi h1 h2 h3 => by
    rcases h3 with h3 | rfl
    · exact I.dist i bi h1 h2 h3
    · exact absurd h2 hna
  ops := I.ops_put tr R hT (M.le.refl _) (Nat.le_refl _) hv
  len := by rw [put_size]; exact I.len
  defs := by rw [put_defers]; exact I.defs
  le0 := I.le0
  eq0 := I.eq0
  os := I.os
  tape := I.tape
  output := I.output
  size := I.size
  keep := fun c h1 h2 => by
    obtain ⟨k1, k2, k3⟩ := I.keep c h1 h2
    refine ⟨k1, k2, fun i bi q1 q2 q3 => ?_⟩
    rcases q3 with q3 | rfl
    · exact k3 i bi q1 q2 q3
    · exact absurd q2 hna
  ro := I.ro
set_option maxHeartbeats 400000 in
theorem Inv.alloc_done (tr : Trc C ih L Tt Hh fc) (I : Inv C L Tt Hh μ0 w0 a0 S a w p μ) (R : Ready L S k o) (hka : kindOf C o.op = .alloc) (hw : Region.wanted o (ayielded L (Tt k)) = true) {ty : TypeId} {cs : List AV} {f : Nat → AV} (hal : allocE C (opd (Tt k)) o.op = some (.cells true ty cs, f))
    {carr : Array Value} (hcs : VRs (μ.cut (max (Hh k).n (Hh p).n)) cs carr.toList) {u : Value} (hval : ∀ (ν : M) (A : Nat) (bi : BI), ν A = some bi → bi.c = w.heap.size → bi.base = 0 → VR ν (f A) u)
    (hT : Tt (k + 1) = putT (Tt k) o.dst (f (Hh k).n)) : Inv C L Tt Hh μ0 w0 a0 (fun i => S i ∨ i = k) (a.put o.dst u) (w.alloc (.cells carr ty)) p (μ.set (Hh k).n ⟨w.heap.size, carr.size, 0⟩) := by
  have hkl : k < L.length := (List.getElem?_eq_some_iff.1 R.ho).1
  have hact : Act1 C L Tt k := ⟨o, R.ho, hka, hw⟩
  have hn1 := tr.act_n hact
  have hnone : μ (Hh k).n = none := by
    rcases Nat.lt_or_ge k p with h | h
    · exact I.pend k h hact R.hn
    · exact I.dom_none tr h hact R.hn
  obtain ⟨bi, hbi⟩ : ∃ bi : BI, bi = ⟨w.heap.size, carr.size, 0⟩ := ⟨_, rfl⟩
  rw [← hbi]
  have hbc : bi.c = w.heap.size := by rw [hbi]
  have hle : M.le μ (μ.set (Hh k).n bi) := M.le_set hnone
  have hset : ∀ X, X ≠ (Hh k).n → (μ.set (Hh k).n bi) X = μ X := fun X h => by unfold M.set; rw [if_neg h]
  have hheap : ∀ j, j < w.heap.size → (w.alloc (.cells carr ty)).heap[j]? = w.heap[j]? := fun j hj => RowKit.Below.heap_alloc _ _ _ hj
  have hnew : (w.alloc (.cells carr ty)).heap[bi.c]? = some (.cells carr ty) := by rw [hbc]; exact World.alloc_heap_new _ _
  have hsz : (w.alloc (.cells carr ty)).heap.size = w.heap.size + 1 := World.size_alloc _ _
  have hblk : ∀ ν : M, M.le (μ.cut (max (Hh k).n (Hh p).n)) ν → BlkR ν (w.alloc (.cells carr ty)) bi (.cells true ty cs) := fun ν hν =>
    blk0 (by rw [hbi]) ⟨carr, (0, 0), hnew, by rw [hbi], by rw [hcs.length]; simp, by rw [hcs.length, List.take_of_length_le (Nat.le_refl _)]; exact hcs.mono hν, fun _ => rfl⟩
  have hother : ∀ A b, A ≠ (Hh k).n → μ A = some b → (A < (Hh p).n → ((Hh p).get A).live = true) → b.c < w.heap.size := fun A b hA hm hl => by
    rcases Nat.lt_or_ge A (Hh p).n with h | h
    · exact (I.HR.blk A b (hl h) (by rw [M.cut_get h]; exact hm)).1
    · obtain ⟨i, h1, h2, ⟨x, t1, t2, t3⟩, h4⟩ := I.dom A b h hm
      obtain ⟨blk, g, t4, -⟩ := tr.alloc_step t1 t2 t3
      obtain ⟨b', e1, e2, -⟩ := I.early i x h1 t1 t2 t3 h2 blk g t4
      rw [h4, e1] at hm; cases hm; exact e2
  have hHR : PI.HR ((μ.set (Hh k).n bi).cut (Hh p).n) (Hh p) (w.alloc (.cells carr ty)) := by
    rcases Nat.lt_or_ge k p with h | h
    · have hA : (Hh k).n < (Hh p).n := by
        have := tr.monos (i := k + 1) (j := p) h I.hp
        omega
      have hcutset : (μ.set (Hh k).n bi).cut (Hh p).n = (μ.cut (Hh p).n).set (Hh k).n bi := funext fun X => by
        by_cases e : X = (Hh k).n
        · subst e; rw [M.cut_get hA, M.set_self, M.set_self]
        · have h1 : ((μ.cut (Hh p).n).set (Hh k).n bi) X = (μ.cut (Hh p).n) X := by unfold M.set; rw [if_neg e]
          rw [h1]; unfold M.cut; rw [hset X e]
      rw [hcutset]
      have hget : (Hh p).get (Hh k).n = .cells true ty cs := tr.alloc k o R.ho hka hw ty cs f hal p I.hp h I.bd fun j x hx hje => ⟨fun hf => (I.eff j x hx hje).1 (I.fck tr R hf), fun hf => by
        rcases Nat.lt_or_ge j p with h' | h'
        · exact absurd ((I.eff j x hx hje).2 h') (I.kfc tr R hx hf)
        · exact h'⟩
      refine I.HR.fill hA (by rw [M.cut_get hA]; exact hnone) (by omega) (by omega) (by omega) hheap ?_
      rw [hget]
      refine hblk _ ?_
      rw [show max (Hh k).n (Hh p).n = (Hh p).n by omega]
      exact M.le_set (by rw [M.cut_get hA]; exact hnone)
    · have hA : (Hh p).n ≤ (Hh k).n := tr.monos h (by omega)
      have hcutset : (μ.set (Hh k).n bi).cut (Hh p).n = μ.cut (Hh p).n := funext fun X => by
        unfold M.cut
        split
        · exact hset X (by omega)
        · rfl
      rw [hcutset]
      exact I.HR.other (by omega) hheap
  refine { hp := I.hp, bd := I.bd, eff := ?_, cl := ?_, HR := hHR, dom := ?_, pend := ?_, early := ?_, dist := ?_, ops := ?_, len := by rw [put_size]; exact I.len, defs := by rw [put_defers]; exact I.defs, le0 := I.le0.trans hle, eq0 := ?_, os := I.os, tape := I.tape, output := I.output, size := by have := I.size; omega, keep := ?_, ro := I.ro }
  · intro j y hy hje
    rw [← I.eff j y hy hje]
    constructor
    · rintro (hs | rfl)
      · exact hs
      · rw [R.ho] at hy; cases hy; rw [hka] at hje; cases hje
    · exact .inl
  · rintro j y hy (hs | rfl) e he hb
    · exact .inl (I.cl j y hy hs e he hb)
    · rw [R.ho] at hy; cases hy; exact .inl (R.dep e he hb)
  · intro A b hA hm
    by_cases e : A = (Hh k).n
    · refine ⟨k, ?_, .inr rfl, hact, e⟩
      rcases Nat.lt_or_ge k p with h | h
      · have := tr.monos (i := k + 1) (j := p) h I.hp; omega
      · exact h
    · rw [hset A e] at hm
      obtain ⟨i, q1, q2, q3, q4⟩ := I.dom A b hA hm
      exact ⟨i, q1, .inl q2, q3, q4⟩
  · intro i hi ha hn
    have hik : i ≠ k := fun e => hn (.inr e)
    rw [hset _ (fun e => hik (tr.act_inj ha hact e))]
    exact I.pend i hi ha fun h => hn (.inl h)
  · intro i x hi hx t2 t3 hs b g hb
    by_cases hik : i = k
    · subst hik
      rw [R.ho] at hx; cases hx
      rw [hal] at hb; cases hb
      refine ⟨bi, M.set_self _ _ _, by omega, hblk _ ?_⟩
      have : (Hh p).n ≤ (Hh i).n := tr.monos hi (by omega)
      rw [show max (Hh i).n (Hh p).n = (Hh i).n by omega]
      exact M.cut_mono hle (Nat.le_refl _)
    · have hne : (Hh i).n ≠ (Hh k).n := fun e => hik (tr.act_inj ⟨x, hx, t2, t3⟩ hact e)
      obtain ⟨b', e1, e2, e3⟩ := I.early i x hi hx t2 t3 (hs.resolve_right hik) b g hb
      exact ⟨b', by rw [hset _ hne]; exact e1, by omega, e3.mono (M.cut_mono hle (Nat.le_refl _)) (hheap _ e2)⟩
  · intro i bj hi ha hs hm A b hA hmA hlive
    by_cases hik : i = k
    · subst hik
      rw [M.set_self] at hm; cases hm
      rw [hset A hA] at hmA
      have := hother A b hA hmA hlive
      omega
    · have hne : (Hh i).n ≠ (Hh k).n := fun e => hik (tr.act_inj ha hact e)
      have hs' := hs.resolve_right hik
      rw [hset _ hne] at hm
      by_cases e : A = (Hh k).n
      · subst e
        rw [M.set_self] at hmA; cases hmA
        obtain ⟨x, t1, t2, t3⟩ := ha
        obtain ⟨blk, g, t4, -⟩ := tr.alloc_step t1 t2 t3
        obtain ⟨b', e1, e2, -⟩ := I.early i x hi t1 t2 t3 hs' blk g t4
        rw [hm] at e1; cases e1
        omega
      · rw [hset A e] at hmA
        exact I.dist i bj hi ha hs' hm A b hA hmA hlive
  · refine I.ops_put tr R hT hle (Nat.le_refl _) (hval _ _ bi ?_ hbc (by rw [hbi]))
    rw [M.cut_get (by omega), M.set_self]
  · intro A hA
    have : (Hh 0).n ≤ (Hh k).n := tr.monos (Nat.zero_le _) (by omega)
    rw [hset A (by omega)]; exact I.eq0 A hA
  · intro c hc hno0
    obtain ⟨k1, k2, k3⟩ := I.keep c hc hno0
    have hcw : c < w.heap.size := Nat.lt_of_lt_of_le hc I.size
    refine ⟨(hheap c hcw).trans k1, ?_, fun i bj q1 q2 q3 hm => ?_⟩
    · rintro ⟨A, x, ho, hm, hcc⟩
      obtain ⟨hA, hmA⟩ := M.cut_some hm
      by_cases e : A = (Hh k).n
      · subst e
        rw [M.set_self] at hmA; cases hmA
        omega
      · rw [hset A e] at hmA
        exact k2 ⟨A, x, ho, by rw [M.cut_get hA]; exact hmA, hcc⟩
    · by_cases hik : i = k
      · subst hik
        rw [M.set_self] at hm; cases hm
        omega
      · rw [hset _ (fun e => hik (tr.act_inj q2 hact e))] at hm
        exact k3 i bj q1 q2 (q3.resolve_right hik) hm
theorem Inv.one (hC : Ctx.Ok P C) (hih : IhOk P ih) (tr : Trc C ih L Tt Hh fc) (I : Inv C L Tt Hh μ0 w0 a0 S a w p μ) (R : Ready L S k o) {ops : Array Oper} (hL : ops.toList = L) {F : Fence} {n : Nat} (hF : Wd F) {next : Act → World → Prop} {Q : Exit → Act → World → Prop}
    (hnext : ∀ a' w' p' μ', Inv C L Tt Hh μ0 w0 a0 (fun i => S i ∨ i = k) a' w' p' μ' → next a' w') :
    if Region.wanted o (yielded ops a.tmps) then o.wpIn F n P a w next Q else (∀ f, o.about P w a.eval = some f → F.fn f) ∧ next (a.put o.dst undef) w := by
  have hs := tr.step k o R.ho
  have hkl : k < L.length := (List.getElem?_eq_some_iff.1 R.ho).1
  rw [I.wants tr R hL]
  unfold stepE at hs
  split at hs
  · rename_i hw
    rw [if_pos hw]
    split at hs
    · rename_i v H' he
      simp only [Option.some.injEq, Prod.mk.injEq] at hs
      obtain ⟨hT, hH⟩ := hs
      subst hH
      have hrho := I.rho tr R
      cases hkd : kindOf C o.op with
      | pure =>
        unfold execE at he
        rw [hkd] at he
        simp only at he
        split at he
        · rename_i v' e
          have hst := tr.still R.ho (.inl hkd)
          simp only [Option.some.injEq, Prod.mk.injEq] at he
          obtain ⟨rfl, -⟩ := he
          obtain ⟨u, hu, hv⟩ := pure_sim hC e hrho w
          refine wpIn_value hF (pure_notDefer e) hu (hnext _ _ _ _ (I.still_done tr R (by rw [hkd]; simp) ?_ hT.symm (by rw [hst]; exact hv)))
          rintro ⟨x, h1, h2, -⟩
          rw [R.ho] at h1; cases h1; rw [hkd] at h2; cases h2
        · cases he
      | load =>
        have hst := tr.still R.ho (.inr (.inl hkd))
        have hna : ¬ Act1 C L Tt k := by
          rintro ⟨x, h1, h2, -⟩
          rw [R.ho] at h1; cases h1; rw [hkd] at h2; cases h2
        unfold execE at he
        rw [hkd] at he
        simp only at he
        split at he
        · rename_i t x hop
          split at he
          · rename_i av ea
            split at he
            · rename_i v' hl
              simp only [Option.some.injEq, Prod.mk.injEq] at he
              obtain ⟨rfl, -⟩ := he
              have hlp := tr.load k o t x R.ho hop hw av v' ea hl p I.hp I.bd fun j y hy hje => ⟨fun hf => (I.eff j y hy hje).1 (I.fck tr R hf), fun hf => by
                rcases Nat.lt_or_ge j p with h' | h'
                · exact absurd ((I.eff j y hy hje).2 h') (I.kfc tr R hy hf)
                · exact h'⟩
              have hva : VR (μ.cut (max (Hh k).n (Hh p).n)) av (a.eval x) := hrho x (by rw [hop]; simp [Op.operands]) av ea
              have hva' : VR (μ.cut (Hh p).n) av (a.eval x) := by
                unfold loadE at hlp
                split at hlp
                · rename_i ti b off hti
                  obtain ⟨bi, hb, e'⟩ := hva.ptr_inv
                  rw [e']
                  refine .ptr ?_
                  have hlt : b < (Hh p).n := by
                    split at hlp
                    · rename_i hg; exact Heap.lt_of_get (by rw [hg]; simp)
                    · cases hlp
                  rw [M.cut_get hlt]; exact (M.cut_some hb).2
                · cases hlp
              obtain ⟨u, hu, hv⟩ := loadE_sim hC I.HR hlp hva'
              refine wpIn_value hF (u := u) (w' := w) (fun c e => by rw [hop] at e; cases e) ?_ (hnext _ _ _ _ (I.still_done tr R (by rw [hkd]; simp) hna hT.symm (hv.mono (M.cut_mono (M.le.refl _) (by omega)))))
              obtain ⟨dst, op, ty, pos, after, guard⟩ := o
              simp only at hop; subst hop
              simp [execOp, hu]
            · cases he
          · cases he
        · cases he
      | alloc =>
        obtain ⟨b, f, hb, hlim, hT', hH'⟩ := tr.alloc_step R.ho hkd hw
        obtain ⟨ty, cs, carr, u, rfl, hcs, hrun, hval⟩ := alloc_sim hC hb hrho w
        refine wpIn_value hF (fun c e' => ?_) hrun (hnext _ _ _ _ (I.alloc_done tr R hkd hw hb hcs hval hT'))
        rw [e'] at hb; simp [allocE] at hb
      | look =>
        have hst := tr.still R.ho (.inr (.inr (.inl hkd)))
        have hna : ¬ Act1 C L Tt k := by
          rintro ⟨x, h1, h2, -⟩
          rw [R.ho] at h1; cases h1; rw [hkd] at h2; cases h2
        obtain ⟨hpk, hno⟩ := I.noEff2 tr R hkd
        have hHk := I.at tr hpk (by omega) hno
        have hmx : max (Hh k).n (Hh p).n = (Hh k).n := by have := tr.monos hpk (show k ≤ L.length by omega); omega
        rw [hmx] at hrho
        unfold execE at he
        rw [hkd] at he
        simp only at he
        split at he
        · rename_i t m key ok hop
          split at he
          · rename_i av bv ea eb
            split at he
            · rename_i v' H2 hl
              simp only [Option.some.injEq, Prod.mk.injEq] at he
              obtain ⟨rfl, -⟩ := he
              obtain ⟨u, hu, hv, -⟩ := lookup_sim hC hHk hl (hrho m (by rw [hop]; simp [Op.operands]) av ea) (hrho key (by rw [hop]; simp [Op.operands]) bv eb)
              refine wpIn_value hF (u := u) (w' := w) (fun c e => by rw [hop] at e; cases e) ?_ (hnext _ _ _ _ (I.still_done tr R (by rw [hkd]; simp) hna hT.symm (hv.mono (M.cut_mono (M.le.refl _) (by rw [hst]; omega)))))
              obtain ⟨dst, op, ty, pos, after, guard⟩ := o
              simp only at hop; subst hop
              simp [execOp, hu]
            · cases he
          · cases he
        · cases he
      | eff =>
        obtain ⟨hpk, hno⟩ := I.noEff tr R hkd
        have hHk := I.at tr hpk (by omega) hno
        have hmx : max (Hh k).n (Hh p).n = (Hh k).n := by have := tr.monos hpk (show k ≤ L.length by omega); omega
        rw [hmx] at hrho
        have he' : effE C ih (opd (Tt k)) o.op (Hh k) = some (v, Hh (k + 1)) := by
          unfold execE at he
          rw [hkd] at he
          exact he
        refine eff_sim hC hih he' hrho hHk hF fun u w' ⟨μ1, h1, h2, h3⟩ => ?_
        exact hnext _ _ _ _ (I.eff_done tr R hkd h2 h3 hT.symm h1)
    · cases hs
  · rename_i hw
    have hw' : Region.wanted o (ayielded L (Tt k)) = false := by simpa using hw
    rw [if_neg hw]
    simp only [Option.some.injEq, Prod.mk.injEq] at hs
    obtain ⟨hT, hH⟩ := hs
    refine ⟨fun f _ => hF.1 f, ?_⟩
    by_cases hkd : kindOf C o.op = .eff
    · obtain ⟨hpk, hno⟩ := I.noEff tr R hkd
      have hHk := I.at tr hpk (by omega) hno
      refine hnext _ _ _ _ (I.eff_done tr R hkd (μ1 := μ.cut (Hh k).n) (w' := w) (by rw [← hH]; exact hHk) (by rw [← hH]; exact Fr.refl _ _ _) hT.symm undefR)
    · refine hnext _ _ _ _ (I.still_done tr R hkd ?_ hT.symm undefR)
      rintro ⟨x, h1, h2, h3⟩
      rw [R.ho] at h1; cases h1; rw [hw'] at h3; cases h3
end
end Go.PI
namespace Go.PI
variable {P : Program} {C : Ctx}
section
variable {ih : Ih} {L : List Oper} {Tt : Nat → List AV} {Hh : Nat → Heap} {fc : Nat → Nat → Prop}
variable {μ0 : M} {w0 : World} {a0 : Act} {a : Act} {w : World} {p : Nat} {μ : M}
theorem Inv.start (tr : Trc C ih L Tt Hh fc) (hT : VRs μ0 (Tt 0) a0.tmps.toList) (hH : PI.HR μ0 (Hh 0) w0) : Inv C L Tt Hh μ0 w0 a0 (fun _ => False) a0 w0 0 μ0 := by
  have hcut : μ0.cut (Hh 0).n = μ0 := funext fun A => by
    unfold M.cut; split
    · rfl
    · exact (hH.dom A (by omega)).symm
  have hcut' : ∀ m, (Hh 0).n ≤ m → μ0.cut m = μ0 := fun m h => funext fun A => by
    unfold M.cut; split
    · rfl
    · exact (hH.dom A (by omega)).symm
  refine { hp := Nat.zero_le _, bd := .inl rfl, eff := fun j y _ _ => by simp, cl := fun _ _ _ h => h.elim, HR := by rw [hcut]; exact hH, dom := fun A b h1 h2 => (by rw [hH.dom A h1] at h2; cases h2), pend := fun i h => by omega, early := fun _ _ _ _ _ _ h => h.elim, dist := fun _ _ _ _ h => h.elim, ops := ?_, len := by rw [hT.length]; simp, defs := rfl, le0 := M.le.refl _, eq0 := fun _ _ => rfl, os := rfl, tape := rfl, output := rfl, size := Nat.le_refl _, keep := fun k h1 h2 => ⟨rfl, by rw [hcut]; exact h2, fun _ _ _ _ h => h.elim⟩, ro := fun A h1 _ => ⟨Heap.lt_of_get (fun e => by rw [e] at h1; cases h1), rfl⟩ }
  intro j hj t hc v hv
  have hfr := tr.frames_T (Nat.zero_le j) hj (t := t) fun k o _ h2 hx hd => ((hc k o hx hd).1 h2).elim
  rw [hfr] at hv
  obtain ⟨u, h1, h2⟩ := hT.get hv
  refine ⟨u, by simpa using h1, ?_⟩
  rw [hcut' _ (by omega)]; exact h2
theorem Inv.finish (tr : Trc C ih L Tt Hh fc) {S : Nat → Prop} (I : Inv C L Tt Hh μ0 w0 a0 S a w p μ) (hH0 : PI.HR μ0 (Hh 0) w0) (hall : ∀ i, i < L.length → S i) :
    VRs (μ.cut (Hh L.length).n) (Tt L.length) a.tmps.toList ∧ PI.HR (μ.cut (Hh L.length).n) (Hh L.length) w ∧ Fr μ0 (Hh 0) w0 (μ.cut (Hh L.length).n) (Hh L.length) w := by
  have hno : ∀ i o, p ≤ i → i < L.length → L[i]? = some o → kindOf C o.op ≠ .eff := fun i o h1 h2 hx he => by
    have := (I.eff i o hx he).1 (hall i h2)
    omega
  have hHN := I.at tr I.hp (Nat.le_refl _) hno
  obtain ⟨q1, q2, q3⟩ := tr.quiet I.hp (Nat.le_refl _) hno
  have hm0 := tr.monos (Nat.zero_le L.length) (Nat.le_refl _)
  have hmp := tr.monos I.hp (Nat.le_refl _)
  have hown : ∀ A, (Hh p).n ≤ A → A < (Hh L.length).n → ((Hh L.length).get A).own = true := fun A h1 h2 => by
    obtain ⟨i, r1, r2, ⟨x, t1, t2, t3⟩, r4⟩ := q2 A h1 h2
    obtain ⟨b, f, t4, -⟩ := tr.alloc_step t1 t2 t3
    obtain ⟨ty, cs, hb⟩ := allocE_cells t4
    rw [r4, q3 i x r1 r2 t1 t2 t3 b f t4, hb]; rfl
  refine ⟨?_, hHN, ⟨fun A b e => ?_, fun A hA => ?_, hm0, I.os, I.tape, I.output, I.size, fun c hc hno0 => ?_, fun A hl ho => ?_⟩⟩
  · refine All2.of_get (by rw [tr.len_T _ (Nat.le_refl _), ← I.len]; simp) fun t v u hv hu => ?_
    obtain ⟨u', h1, h2⟩ := I.ops L.length (Nat.le_refl _) t (fun i o hx _ => ⟨fun h => hall i h, fun h => by
      have := (List.getElem?_eq_some_iff.1 hx).1; omega⟩) v hv
    have : u' = u := by
      have hu' : a.tmps[t]? = some u := by simpa using hu
      rw [h1] at hu'; cases hu'; rfl
    subst this
    rw [show max (Hh L.length).n (Hh p).n = (Hh L.length).n by omega] at h2
    exact h2
  · have hA : A < (Hh 0).n := by
      rcases Nat.lt_or_ge A (Hh 0).n with h | h
      · exact h
      · rw [hH0.dom A h] at e; cases e
    rw [M.cut_get (by omega)]; exact I.le0 A b e
  · rw [M.cut_get (by omega)]; exact I.eq0 A hA
  · obtain ⟨k1, k2, k3⟩ := I.keep c hc hno0
    refine ⟨k1, ?_⟩
    rintro ⟨A, x, ho, hm, hcc⟩
    obtain ⟨hA, hmA⟩ := M.cut_some hm
    rcases Nat.lt_or_ge A (Hh p).n with h | h
    · exact k2 ⟨A, x, by rw [← q1 A h]; exact ho, by rw [M.cut_get h]; exact hmA, hcc⟩
    · obtain ⟨i, s1, s2, s3, s4⟩ := I.dom A x h hmA
      exact k3 i x s1 s3 s2 (s4 ▸ hmA) hcc
  · rcases Nat.lt_or_ge A (Hh p).n with h | h
    · rw [q1 A h] at hl ho ⊢; exact I.ro A hl ho
    · have hA : A < (Hh L.length).n := Heap.lt_of_get (fun e => by rw [e] at hl; cases hl)
      rw [hown A h hA] at ho; cases ho
def rem (f : Nat → Bool) : Nat → Nat
  | 0 => 0
  | n + 1 => rem f n + if f n then 0 else 1
theorem rem_same (f g : Nat → Bool) : ∀ n, (∀ i, i < n → f i = g i) → rem f n = rem g n
  | 0, _ => rfl
  | n + 1, h => by simp only [rem, rem_same f g n fun i hi => h i (by omega), h n (by omega)]
theorem rem_set (f g : Nat → Bool) (k : Nat) (hf : f k = false) (hg : g k = true) (he : ∀ i, i ≠ k → g i = f i) : ∀ n, k < n → rem f n = rem g n + 1
  | 0, h => by omega
  | n + 1, h => by
    simp only [rem]
    by_cases e : n = k
    · subst e
      rw [rem_same g f n fun i hi => he i (by omega), hf, hg]; simp
    · rw [rem_set f g k hf hg he n (by omega), he n e]; omega
theorem rem_zero (f : Nat → Bool) : ∀ n, rem f n = 0 → ∀ i, i < n → f i = true
  | 0, _, i, hi => by omega
  | n + 1, h, i, hi => by
    simp only [rem] at h
    by_cases e : i = n
    · subst e
      cases hf : f i with
      | true => rfl
      | false => rw [hf] at h; simp at h
    · exact rem_zero f n (by omega) i (by omega)
theorem draw_sim (hC : Ctx.Ok P C) (hih : IhOk P ih) {ops : Array Oper} (tr : Trc C ih ops.toList Tt Hh fc) (hH0 : PI.HR μ0 (Hh 0) w0) {F : Fence} {n : Nat} (hF : Wd F) {Q : Exit → Act → World → Prop}
    (hq : ∀ μ' a' w', VRs μ' (Tt ops.size) a'.tmps.toList → a'.defers = a0.defers → PI.HR μ' (Hh ops.size) w' → Fr μ0 (Hh 0) w0 μ' (Hh ops.size) w' → Q .normal a' w') :
    ∀ (fuel t : Nat) (listed : Array Bool) (a : Act) (w : World) (p : Nat) (μ : M), listed.size = ops.size → rem (fun i => listed.getD i false) ops.size ≤ fuel → Inv C ops.toList Tt Hh μ0 w0 a0 (fun i => listed.getD i false = true) a w p μ →
      wpOpsIn F n P ops Q (Region.linearise.go .any ops fuel t listed []) a w := by
  have hlen : ops.toList.length = ops.size := by simp
  have hget : ∀ i : Nat, ops.toList[i]? = ops[i]? := fun i => Array.getElem?_toList
  have fin : ∀ (listed : Array Bool) (a : Act) (w : World) (p : Nat) (μ : M), (∀ i, i < ops.size → listed.getD i false = true) → Inv C ops.toList Tt Hh μ0 w0 a0 (fun i => listed.getD i false = true) a w p μ → Q .normal a w := fun listed a w p μ hall I => by
    obtain ⟨h1, h2, h3⟩ := I.finish tr hH0 (by rw [hlen]; exact hall)
    rw [hlen] at h1 h2 h3
    exact hq _ a w h1 I.defs h2 h3
  intro fuel
  induction fuel with
  | zero =>
    intro t listed a w p μ hs hr I
    simp only [Region.linearise.go, List.reverse_nil, wpOpsIn]
    exact fin listed a w p μ (rem_zero _ _ (by omega)) I
  | succ fuel ihf =>
    intro t listed a w p μ hs hr I
    simp only [Region.linearise.go]
    change wpOpsIn F n P ops Q (match (Region.ready .any ops listed)[t % (Region.ready .any ops listed).length]? with
      | some i => Region.linearise.go .any ops fuel (t / (Region.ready .any ops listed).length) (listed.setIfInBounds i true) [i]
      | none => [].reverse) a w
    cases hi : (Region.ready .any ops listed)[t % (Region.ready .any ops listed).length]? with
    | none =>
      have hnil : Region.ready .any ops listed = [] := by
        cases hr : Region.ready .any ops listed with
        | nil => rfl
        | cons x xs =>
          rw [hr] at hi
          have hlt : t % (x :: xs).length < (x :: xs).length := Nat.mod_lt _ (by simp)
          rw [List.getElem?_eq_getElem hlt] at hi; cases hi
      simp only [List.reverse_nil, wpOpsIn]
      refine fin listed a w p μ ?_ I
      intro i
      induction i using Nat.strongRecOn with
      | _ i ihi =>
        intro hi
        cases hl : listed.getD i false with
        | true => rfl
        | false =>
          have hm : i ∈ Region.ready .any ops listed := by
            rw [mem_ready]
            refine ⟨by rw [Array.getD_eq_getD_getElem?, Array.getElem?_eq_getElem (by omega)] at hl ⊢; exact hl, ops[i], Array.getElem?_eq_getElem hi, fun e he hb => ?_⟩
            have hlt := tr.back i ops[i] (by rw [hget]; exact Array.getElem?_eq_getElem hi) e he hb
            exact ihi e.on hlt (by omega)
          rw [hnil] at hm; cases hm
    | some k =>
      simp only []
      rw [linearise_go_acc, List.reverse_singleton, List.singleton_append]
      obtain ⟨h1, o, ho, h3⟩ := mem_ready.1 (List.mem_of_getElem? hi)
      have hk : k < ops.size := (Array.getElem?_eq_some_iff.1 ho).1
      have hkf : listed.getD k false = false := by rw [Array.getD_eq_getD_getElem?, Array.getElem?_eq_getElem (by omega)] at h1 ⊢; exact h1
      have R : Ready ops.toList (fun i => listed.getD i false = true) k o := ⟨by rw [hget]; exact ho, by rw [hkf]; simp, h3⟩
      have hset : ∀ i, (listed.setIfInBounds k true).getD i false = true ↔ (listed.getD i false = true ∨ i = k) := fun i => by
        by_cases e : i = k
        · subst e
          simp [Array.getD_eq_getD_getElem?, Array.getElem?_setIfInBounds_self_of_lt (show i < listed.size by omega)]
        · rw [getD_set_ne false (Ne.symm e)]; simp [e]
      simp only [wpOpsIn, ho]
      refine I.one hC hih tr R rfl hF fun a' w' p' μ' I' => ihf _ _ a' w' p' μ' (by simp [hs]) ?_ ?_
      · have := rem_set (fun i => listed.getD i false) (fun i => (listed.setIfInBounds k true).getD i false) k hkf ((hset k).2 (.inr rfl)) (fun i hi => getD_set_ne false (Ne.symm hi)) ops.size hk
        omega
      · have : (fun i => (listed.setIfInBounds k true).getD i false = true) = fun i => (listed.getD i false = true ∨ i = k) := funext fun i => propext (hset i)
        rw [this]; exact I'
end
end Go.PI
