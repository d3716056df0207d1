/- Own work of the verifier: PiClosed PiGrow PvDefs. -/
import Derived.Test.YtoppgcfijjndfaaGreatDoorOqAM
set_option linter.all false
set_option exponentiation.threshold 3000
set_option linter.deprecated false
/- A CALL WITH CLOSED ARGUMENTS, once seen to end with a value, as a summary. -/
namespace Go.PI
/-- a value of the pattern, whose blocks count from n on -/
def shS (n : Nat) : AV → AV
  | .sl b o l c => .sl (n + b) o l c
  | .slu b o l e => .slu (n + b) o l e
  | a => a
def shV (n : Nat) : AV → AV
  | .agg cs => .agg (cs.map (shS n))
  | a => shS n a
/-- a is what a1 is, where block i of the pattern is block ks[i] of the run -/
def maS (ks : List Nat) : AV → AV → Bool
  | .int .i64 m, .int .i64 m' => decide (m = m')
  | .bool m, .bool m' => m == m'
  | .nils, .nils => true
  | .nilp, .nilp => true
  | .sl b o l c, .sl b' o' l' c' => decide (ks[b]? = some b' ∧ o = o' ∧ l = l' ∧ c = c')
  | .slu b o l e, .slu b' o' l' e' => decide (ks[b]? = some b' ∧ o = o' ∧ l = l' ∧ e = e')
  | _, _ => false
def maL (ks : List Nat) : List AV → List AV → Bool
  | [], [] => true
  | a :: as, b :: bs => maS ks a b && maL ks as bs
  | _, _ => false
def maV (ks : List Nat) : AV → AV → Bool
  | .agg cs, .agg cs' => maL ks cs cs'
  | a, b => maS ks a b
theorem maS_ok {ks : List Nat} {μ1 μ' : M} {n : Nat} (hk : ∀ (i A : Nat), ks[i]? = some A → μ' (n + i) = μ1 A) {a a1 : AV} {u : Value} (h : maS ks a a1 = true) (hv : VR μ1 a1 u) : VR μ' (shS n a) u := by
  unfold maS at h
  split at h
  · have := of_decide_eq_true h
    subst this
    cases hv
    exact .int _ _
  · have := eq_of_beq h
    subst this
    cases hv
    exact .bool _
  · cases hv; exact .nils
  · cases hv; exact .nilp
  · obtain ⟨h1, rfl, rfl, rfl⟩ := of_decide_eq_true h
    cases hv with
    | sl hb => exact .sl ((hk _ _ h1).trans hb)
  · obtain ⟨h1, rfl, rfl, rfl⟩ := of_decide_eq_true h
    cases hv with
    | slu hb hc hl => exact .slu ((hk _ _ h1).trans hb) hc hl
    | sluz hb => exact .sluz ((hk _ _ h1).trans hb) _ _ _
  · cases h
theorem maL_ok {ks : List Nat} {μ1 μ' : M} {n : Nat} (hk : ∀ (i A : Nat), ks[i]? = some A → μ' (n + i) = μ1 A) : ∀ {as bs : List AV} {us : List Value}, maL ks as bs = true → All2 (VR μ1) bs us → All2 (VR μ') (as.map (shS n)) us
  | [], [], _, _, h => by cases h; exact .nil
  | [], _ :: _, _, h, _ => by cases h
  | _ :: _, [], _, h, _ => by cases h
  | a :: as, b :: bs, _, h, hv => by
    simp only [maL, Bool.and_eq_true] at h
    cases hv with
    | cons h1 h2 => exact .cons (maS_ok hk h.1 h1) (maL_ok hk h.2 h2)
theorem maV_ok {ks : List Nat} {μ1 μ' : M} {n : Nat} (hk : ∀ (i A : Nat), ks[i]? = some A → μ' (n + i) = μ1 A) {a a1 : AV} {u : Value} (h : maV ks a a1 = true) (hv : VR μ1 a1 u) : VR μ' (shV n a) u := by
  unfold maV at h
  split at h
  · cases hv with
    | agg hv => exact .agg (maL_ok hk h hv)
  · rename_i h1 h2
    have : shV n a = shS n a := by
      unfold shV
      split
      · cases a1 <;> simp [maS] at h
      · rfl
    rw [this]
    exact maS_ok hk h hv
/-- one block more, which nobody else has -/
theorem HR.pushN {μ : M} {H : Heap} {w : World} (hH : HR μ H w) (hn : H.n < PI.lim) {bi : BI} {b : Blk} (hc : bi.c < w.heap.size) (hb : BlkR (μ.set H.n bi) w bi b)
    (hne : ∀ A a, (H.get A).live = true → μ A = some a → a.c ≠ bi.c) : HR (μ.set H.n bi) (H.push b) w := by
  have hle : M.le μ (μ.set H.n bi) := M.le_set (hH.dom _ (Nat.le_refl _))
  have hp := Heap.get_push (H := H) (b := b) hn
  have hold : ∀ {A a}, A ≠ H.n → (μ.set H.n bi) A = some a → μ A = some a := fun h e => by unfold M.set at e; rwa [if_neg h] at e
  refine ⟨by show H.n + 1 ≤ PI.lim; omega, fun A hA => ?_, fun A a hl hm => ?_, fun A B a b' hAB hoA hlB hmA hmB => ?_⟩
  · have hA : H.n + 1 ≤ A := hA
    unfold M.set
    rw [if_neg (by omega)]
    exact hH.dom A (by omega)
  · rw [hp] at hl ⊢
    by_cases hA : A = H.n
    · subst hA
      rw [if_pos rfl]
      rw [M.set_self] at hm
      cases hm
      exact ⟨hc, hb⟩
    · rw [if_neg hA] at hl ⊢
      obtain ⟨g1, g2⟩ := hH.blk A a hl (hold hA hm)
      exact ⟨g1, g2.mono hle rfl⟩
  · rw [hp] at hoA hlB
    by_cases hA : A = H.n
    · have hB : B ≠ H.n := fun e => hAB (hA.trans e.symm)
      rw [if_neg hB] at hlB
      rw [hA, M.set_self] at hmA
      cases hmA
      exact fun e => hne B b' hlB (hold hB hmB) e.symm
    · rw [if_neg hA] at hoA
      by_cases hB : B = H.n
      · rw [hB, M.set_self] at hmB
        cases hmB
        exact hne A a (Blk.live_of_own hoA) (hold hA hmA)
      · rw [if_neg hB] at hlB
        exact hH.inj A B a b' hAB hoA hlB (hold hA hmA) (hold hB hmB)
/-- the pattern's blocks, one after the other -/
def pushLn (n0 : Nat) : List (TypeId × List AV) → Heap → Heap
  | [], H => H
  | (ty, cs) :: L, H => pushLn n0 L (H.push (.cells true ty (cs.map (shS n0))))
def blkOk (ks : List Nat) (H1 : Heap) : List Nat → List (TypeId × List AV) → Bool
  | [], [] => true
  | k :: r, (ty, cs) :: L => (match H1.get k with
    | .cells true ty' cs' => decide (ty = ty') && maL ks cs cs'
    | _ => false) && blkOk ks H1 r L
  | _, _ => false
def nodupB : List Nat → Bool
  | [] => true
  | k :: r => !r.contains k && nodupB r
/-- what a run from nothing ended with is what the pattern says -/
def chkRun (ks : List Nat) (L : List (TypeId × List AV)) (v0 v1 : AV) (H1 : Heap) : Bool := maV ks v0 v1 && nodupB ks && blkOk ks H1 ks L
theorem pushLn_n (n0 : Nat) : ∀ (L : List (TypeId × List AV)) (H : Heap), (pushLn n0 L H).n = H.n + L.length
  | [], _ => rfl
  | (ty, cs) :: L, H => by
    show (pushLn n0 L _).n = _
    rw [pushLn_n n0 L]
    show H.n + 1 + L.length = H.n + (L.length + 1)
    omega
theorem pushLn_get (n0 : Nat) : ∀ (L : List (TypeId × List AV)) (H : Heap), H.n + L.length ≤ lim → ∀ A, (pushLn n0 L H).get A = (match (if A < H.n then none else L[A - H.n]?) with
    | some (ty, cs) => .cells true ty (cs.map (shS n0))
    | none => H.get A)
  | [], H, _, A => by
    show H.get A = _
    split
    · rename_i h; split at h <;> simp at h
    · rfl
  | (ty, cs) :: L, H, hl, A => by
    simp only [List.length_cons] at hl
    have hp := Heap.get_push (H := H) (b := .cells true ty (cs.map (shS n0))) (by omega)
    show (pushLn n0 L (H.push _)).get A = _
    rw [pushLn_get n0 L _ (by show H.n + 1 + L.length ≤ lim; omega) A]
    have hpn : (H.push (.cells true ty (cs.map (shS n0)))).n = H.n + 1 := rfl
    rw [hpn, hp]
    by_cases h1 : A < H.n
    · rw [if_pos h1, if_pos (by omega), if_neg (by omega)]
    · by_cases h2 : A = H.n
      · subst h2
        rw [if_neg h1, if_pos (by omega), if_pos rfl, Nat.sub_self]
        rfl
      · rw [if_neg h1, if_neg (by omega), if_neg h2, show A - H.n = (A - (H.n + 1)) + 1 by omega]
        rfl
theorem blkOk_get {ks : List Nat} {H1 : Heap} : ∀ {r : List Nat} {L : List (TypeId × List AV)}, blkOk ks H1 r L = true → r.length = L.length ∧ ∀ (i k : Nat), r[i]? = some k → ∃ ty cs cs', L[i]? = some (ty, cs) ∧ H1.get k = .cells true ty cs' ∧ maL ks cs cs' = true
  | [], [], _ => ⟨rfl, fun i k h => by simp at h⟩
  | [], _ :: _, h => by cases h
  | _ :: _, [], h => by cases h
  | k :: r, (ty, cs) :: L, h => by
    unfold blkOk at h
    simp only [Bool.and_eq_true] at h
    obtain ⟨h1, h2⟩ := h
    obtain ⟨h3, h4⟩ := blkOk_get h2
    refine ⟨by simp [h3], fun i k' hk => ?_⟩
    cases i with
    | zero =>
      cases hk
      split at h1
      · rename_i ty' cs' hg
        simp only [Bool.and_eq_true, decide_eq_true_eq] at h1
        obtain ⟨rfl, h5⟩ := h1
        exact ⟨ty, cs, cs', rfl, hg, h5⟩
      · cases h1
    | succ i => exact h4 i k' hk
theorem nodupB_ix : ∀ {ks : List Nat}, nodupB ks = true → ∀ (i j k : Nat), ks[i]? = some k → ks[j]? = some k → i = j
  | [], _, i, j, k, h, _ => by simp at h
  | a :: r, h, i, j, k, hi, hj => by
    unfold nodupB at h
    simp only [Bool.and_eq_true, Bool.not_eq_true', List.contains_eq_mem, decide_eq_false_iff_not] at h
    cases i with
    | zero => cases j with
      | zero => rfl
      | succ j => cases hi; exact absurd (List.mem_of_getElem? (show r[j]? = some a from hj)) h.1
    | succ i => cases j with
      | zero => cases hj; exact absurd (List.mem_of_getElem? (show r[i]? = some a from hi)) h.1
      | succ j => exact congrArg Nat.succ (nodupB_ix h.2 i j k hi hj)
def μx (μ μ1 : M) (n : Nat) (ks : List Nat) : M := fun A => if A < n then μ A else match ks[A - n]? with
  | some B => μ1 B
  | none => none
/-- what a run from nothing leaves, it leaves beside whatever there is -/
theorem frame_val0 {μ μ0 : M} {H H0 H1 : Heap} {w w' : World} {v0 v1 : AV} {u : Value} {ks : List Nat} {L : List (TypeId × List AV)} (hno : ∀ k, ¬ Own μ0 H0 k) (hH : HR μ H w) (hn : H.n + L.length ≤ lim)
    (h : EffR μ0 H0 w v1 H1 u w') (hc : chkRun ks L v0 v1 H1 = true) : EffR μ H w (shV H.n v0) (pushLn H.n L H) u w' := by
  obtain ⟨μ1, h1, h2, hF⟩ := h
  unfold chkRun at hc
  simp only [Bool.and_eq_true] at hc
  obtain ⟨⟨c1, c2⟩, c3⟩ := hc
  obtain ⟨c4, c5⟩ := blkOk_get c3
  have hlow : ∀ A, A < H.n → μx μ μ1 H.n ks A = μ A := fun A hA => if_pos hA
  have hk : ∀ (i A : Nat), ks[i]? = some A → μx μ μ1 H.n ks (H.n + i) = μ1 A := fun i A hi => by
    unfold μx
    rw [if_neg (by omega), show H.n + i - H.n = i by omega, hi]
  have hhi : ∀ (A : Nat) (b : BI), ¬ A < H.n → μx μ μ1 H.n ks A = some b → ∃ k, ks[A - H.n]? = some k ∧ μ1 k = some b := fun A b hA hm => by
    unfold μx at hm
    rw [if_neg hA] at hm
    split at hm
    · exact ⟨_, ‹_›, hm⟩
    · cases hm
  have hle : M.le μ (μx μ μ1 H.n ks) := fun A b hb => by
    have hA : A < H.n := Nat.lt_of_not_le fun hA => by rw [hH.dom A hA] at hb; cases hb
    rw [hlow A hA]
    exact hb
  have hkp : ∀ k, k < w.heap.size → w'.heap[k]? = w.heap[k]? := fun k hk => (hF.keep k hk (hno k)).1
  have hnew : ∀ (i k : Nat) (b : BI), ks[i]? = some k → μ1 k = some b → w.heap.size ≤ b.c ∧ (H1.get k).own = true ∧ (H1.get k).live = true := fun i k b hi hm => by
    obtain ⟨ty, cs, cs', -, hg, -⟩ := c5 i k hi
    have ho : (H1.get k).own = true := by rw [hg]; rfl
    exact ⟨Nat.le_of_not_lt fun hlt => (hF.keep b.c hlt (hno _)).2 ⟨k, b, ho, hm, rfl⟩, ho, Blk.live_of_own ho⟩
  have hg0 : ∀ A, A < H.n → (pushLn H.n L H).get A = H.get A := fun A hA => by rw [pushLn_get H.n L H hn A, if_pos hA]
  have hg1 : ∀ (A k : Nat), ¬ A < H.n → ks[A - H.n]? = some k → ∃ ty cs cs', (pushLn H.n L H).get A = .cells true ty (cs.map (shS H.n)) ∧ H1.get k = .cells true ty cs' ∧ maL ks cs cs' = true := fun A k hA hi => by
    obtain ⟨ty, cs, cs', q1, q2, q3⟩ := c5 _ k hi
    exact ⟨ty, cs, cs', by rw [pushLn_get H.n L H hn A, if_neg hA, q1], q2, q3⟩
  refine ⟨μx μ μ1 H.n ks, maV_ok hk c1 h1, ⟨?_, fun A hA => ?_, fun A bi hl hm => ?_, fun A B a b hAB hoA hlB hmA hmB => ?_⟩, ⟨hle, hlow, ?_, hF.os, hF.tape, hF.output, hF.size, fun k hk' ho => ⟨hkp k hk', ?_⟩, fun A hl ho => ?_⟩⟩
  · rw [pushLn_n]; exact hn
  · rw [pushLn_n] at hA
    unfold μx
    rw [if_neg (by omega), List.getElem?_eq_none (by omega)]
  · by_cases hA : A < H.n
    · rw [hlow A hA] at hm
      rw [hg0 A hA] at hl ⊢
      obtain ⟨g1, g2⟩ := hH.blk A bi hl hm
      exact ⟨Nat.lt_of_lt_of_le g1 hF.size, g2.mono hle (hkp _ g1)⟩
    · obtain ⟨k, hi, hm1⟩ := hhi A bi hA hm
      obtain ⟨ty, cs, cs', q1, q2, q3⟩ := hg1 A k hA hi
      obtain ⟨p1, -, p3⟩ := hnew _ k bi hi hm1
      obtain ⟨g1, g2⟩ := h2.blk k bi p3 hm1
      refine ⟨g1, ?_⟩
      rw [q1]
      rw [q2] at g2
      obtain ⟨carr, fz, r1, r2, r3, r4, r5⟩ := g2
      have hv := maL_ok hk q3 r4
      have hlen : (cs.map (shS H.n)).length = cs'.length := by
        have e1 := hv.length
        have e2 := r4.length
        omega
      exact ⟨carr, fz, r1, r2, by rw [hlen]; exact r3, by rw [hlen]; exact hv, r5⟩
  · by_cases hA : A < H.n
    · rw [hlow A hA] at hmA
      rw [hg0 A hA] at hoA
      have ga := (hH.blk A a (Blk.live_of_own hoA) hmA).1
      by_cases hB : B < H.n
      · rw [hlow B hB] at hmB
        rw [hg0 B hB] at hlB
        exact hH.inj A B a b hAB hoA hlB hmA hmB
      · obtain ⟨k, hi, hm1⟩ := hhi B b hB hmB
        have := (hnew _ k b hi hm1).1
        omega
    · obtain ⟨k, hi, hm1⟩ := hhi A a hA hmA
      obtain ⟨p1, p2, p3⟩ := hnew _ k a hi hm1
      by_cases hB : B < H.n
      · rw [hlow B hB] at hmB
        rw [hg0 B hB] at hlB
        have := (hH.blk B b hlB hmB).1
        omega
      · obtain ⟨k', hi', hm1'⟩ := hhi B b hB hmB
        obtain ⟨-, -, p3'⟩ := hnew _ k' b hi' hm1'
        refine h2.inj k k' a b (fun e => ?_) p2 p3' hm1 hm1'
        subst e
        have := nodupB_ix c2 _ _ k hi hi'
        omega
  · rw [pushLn_n]; omega
  · rintro ⟨A, a, hoA, hmA, rfl⟩
    by_cases hA : A < H.n
    · rw [hlow A hA] at hmA
      rw [hg0 A hA] at hoA
      exact ho ⟨A, a, hoA, hmA, rfl⟩
    · obtain ⟨k, hi, hm1⟩ := hhi A a hA hmA
      have := (hnew _ k a hi hm1).1
      omega
  · by_cases hA : A < H.n
    · exact ⟨hA, hg0 A hA⟩
    · cases hi : ks[A - H.n]? with
      | some k =>
        obtain ⟨ty, cs, cs', q1, -, -⟩ := hg1 A k hA hi
        rw [q1] at ho
        cases ho
      | none =>
        rw [pushLn_get H.n L H hn A, if_neg hA] at hl
        have hl2 : L[A - H.n]? = none := by
          rw [List.getElem?_eq_none_iff] at hi ⊢
          omega
        rw [hl2] at hl
        have hlt : A < H.n := Heap.lt_of_get (by intro e; rw [e] at hl; cases hl)
        exact absurd hlt hA
theorem frame_val {μ : M} {H H1 : Heap} {w w' : World} {v0 v1 : AV} {u : Value} {ks : List Nat} {L : List (TypeId × List AV)} (hH : HR μ H w) (hn : H.n + L.length ≤ lim)
    (h : EffR (fun _ => none) ⟨0, .nil⟩ w v1 H1 u w') (hc : chkRun ks L v0 v1 H1 = true) : EffR μ H w (shV H.n v0) (pushLn H.n L H) u w' :=
  frame_val0 (fun k => by rintro ⟨A, a, -, hm, -⟩; cases hm) hH hn h hc
def isInts : List AV → List Int → Bool
  | [], [] => true
  | .int .i64 m :: us, n :: ns => decide (m = n) && isInts us ns
  | _, _ => false
theorem isInts_is : ∀ {us : List AV} {ns : List Int}, isInts us ns = true → us = ns.map (AV.int .i64)
  | [], [], _ => rfl
  | [], _ :: _, h => by cases h
  | a :: us, [], h => by cases a <;> simp [isInts] at h
  | a :: us, n :: ns, h => by
    unfold isInts at h
    split at h
    · rename_i e; cases e
    · rename_i m us' n' ns' e1 e2
      cases e1
      cases e2
      simp only [Bool.and_eq_true, decide_eq_true_eq] at h
      obtain ⟨rfl, h2⟩ := h
      rw [isInts_is h2]
      rfl
    · cases h
/-- the answer to the arguments ns, always the same, in blocks of its own -/
def sumT (ns : List Int) (v0 : AV) (L : List (TypeId × List AV)) (us : List AV) (H : Heap) : Option (AV × Heap) :=
  if isInts us ns && Nat.ble (H.n + L.length) lim then some (shV H.n v0, pushLn H.n L H) else none
theorem vr_ints {μ ν : M} : ∀ {ns : List Int} {l : List Value}, All2 (VR μ) (ns.map (AV.int .i64)) l → All2 (VR ν) (ns.map (AV.int .i64)) l
  | [], _, h => by cases h; exact .nil
  | n :: ns, _, h => by
    cases h with
    | cons h1 h2 => cases h1; exact .cons (.int _ _) (vr_ints h2)
/-- A call with integers that was seen to end with a value. -/
theorem closed_val {P : Program} {C : Ctx} (hC : Ctx.Ok P C) {n : Nat} {f : FuncId} {ns : List Int} {v0 v1 : AV} {H1 : Heap} {ks : List Nat} {L : List (TypeId × List AV)}
    (h : call C n f (ns.map (AV.int .i64)) ⟨0, .nil⟩ = some (v1, H1)) (hc : chkRun ks L v0 v1 H1 = true) : SumR P f (sumT ns v0 L) := by
  intro us H v H' hS μ args w ha hH
  unfold sumT at hS
  split at hS
  · rename_i hcond
    simp only [Bool.and_eq_true] at hcond
    have hl : H.n + L.length ≤ lim := Nat.le_of_ble_eq_true hcond.2
    have hu := isInts_is hcond.1
    subst hu
    cases hS
    have h0 : HR (fun _ => none) ⟨0, .nil⟩ w := ⟨by simp [PI.lim], fun _ _ => rfl, fun A bi hl hm => (by cases hm), fun A B a b _ _ _ hm => (by cases hm)⟩
    rcases callF_sim hC (sound hC n) h (vr_ints ha) h0 with ⟨u, w', h1, h2⟩ | ⟨h1, h2⟩
    · exact .inl ⟨u, w', h1, frame_val hH hl h2 hc⟩
    · refine .inr ⟨h1, fun F m hF => (h2 F m hF).mono ?_⟩
      rintro e w' ⟨u, rfl, hE⟩
      exact ⟨u, rfl, frame_val hH hl hE hc⟩
  · cases hS
/-- a block that is only read and holds integers -/
def rdBlk (H : Heap) (b : Nat) (ty : TypeId) (xs : List Int) : Bool :=
  match H.get b with
  | .cells _ ty' cs => decide (ty' = ty) && isInts cs xs
  | _ => false
/-- two slices of integers, whole blocks each -/
def rdTwo (H : Heap) (ty : TypeId) (xs ys : List Int) : AV → Bool
  | .agg [.sl a 0 l c, .sl b 0 l' c'] => decide (l = xs.length ∧ c = xs.length ∧ l' = ys.length ∧ c' = ys.length) && rdBlk H a ty xs && rdBlk H b ty ys
  | _ => false
def twoH (ty : TypeId) (xs ys : List Int) : Heap := ((⟨0, .nil⟩ : Heap).push (.cells false ty (xs.map (AV.int .i64)))).push (.cells false ty (ys.map (AV.int .i64)))
def twoV (xs ys : List Int) : AV := .agg [.sl 0 0 xs.length xs.length, .sl 1 0 ys.length ys.length]
def sumO (ty : TypeId) (xs ys : List Int) (v0 : AV) (L : List (TypeId × List AV)) (us : List AV) (H : Heap) : Option (AV × Heap) :=
  match us with
  | [v] => if rdTwo H ty xs ys v && Nat.ble (H.n + L.length) lim then some (shV H.n v0, pushLn H.n L H) else none
  | _ => none
theorem rdBlk_is {H : Heap} {b : Nat} {ty : TypeId} {xs : List Int} (h : rdBlk H b ty xs = true) : ∃ rw, H.get b = .cells rw ty (xs.map (AV.int .i64)) := by
  unfold rdBlk at h
  split at h
  · rename_i rw ty' cs hg
    simp only [Bool.and_eq_true, decide_eq_true_eq] at h
    obtain ⟨rfl, h2⟩ := h
    rw [hg, isInts_is h2]
    exact ⟨rw, rfl⟩
  · cases h
theorem push_ro {μ : M} {H : Heap} {w : World} (hH : HR μ H w) (hn : H.n < PI.lim) (hro : ∀ A, (H.get A).own = false) {bi : BI} {ty : TypeId} {cs : List AV} (hc : bi.c < w.heap.size) (hb : BlkR (μ.set H.n bi) w bi (.cells false ty cs)) :
    HR (μ.set H.n bi) (H.push (.cells false ty cs)) w ∧ ∀ A, ((H.push (.cells false ty cs)).get A).own = false := by
  have hp := Heap.get_push (H := H) (b := .cells false ty cs) hn
  have hro2 : ∀ A, ((H.push (.cells false ty cs)).get A).own = false := fun A => by
    rw [hp]
    split
    · rfl
    · exact hro A
  have hle : M.le μ (μ.set H.n bi) := M.le_set (hH.dom _ (Nat.le_refl _))
  refine ⟨⟨by show H.n + 1 ≤ PI.lim; omega, fun A hA => ?_, fun A a hl hm => ?_, fun A B a b' hAB hoA => ?_⟩, hro2⟩
  · have hA : H.n + 1 ≤ A := hA
    unfold M.set
    rw [if_neg (by omega)]
    exact hH.dom A (by omega)
  · rw [hp] at hl ⊢
    by_cases hA : A = H.n
    · subst hA
      rw [if_pos rfl]
      rw [M.set_self] at hm
      cases hm
      exact ⟨hc, hb⟩
    · rw [if_neg hA] at hl ⊢
      unfold M.set at hm
      rw [if_neg hA] at hm
      obtain ⟨g1, g2⟩ := hH.blk A a hl hm
      exact ⟨g1, g2.mono hle rfl⟩
  · rw [hro2 A] at hoA
    cases hoA
theorem blk_ro {μ ν : M} {H : Heap} {w : World} (hH : HR μ H w) {a : Nat} {ba : BI} {rw : Bool} {ty : TypeId} {xs : List Int} (hg : H.get a = .cells rw ty (xs.map (AV.int .i64))) (hm : μ a = some ba) :
    ba.c < w.heap.size ∧ BlkR ν w ba (.cells false ty (xs.map (AV.int .i64))) := by
  obtain ⟨g1, g2⟩ := hH.blk a ba (by rw [hg]; rfl) hm
  rw [hg] at g2
  obtain ⟨carr, fz, r1, r2, r3, r4, -, r5⟩ := g2
  exact ⟨g1, carr, fz, r1, r2, r3, vr_ints r4, (fun h => by cases h), r5⟩
/-- A call with two slices of integers that was seen to end with a value. -/
theorem closed_two {P : Program} {C : Ctx} (hC : Ctx.Ok P C) {n : Nat} {f : FuncId} {ty : TypeId} {xs ys : List Int} {v0 v1 : AV} {H1 : Heap} {ks : List Nat} {L : List (TypeId × List AV)}
    (h : call C n f [twoV xs ys] (twoH ty xs ys) = some (v1, H1)) (hc : chkRun ks L v0 v1 H1 = true) : SumR P f (sumO ty xs ys v0 L) := by
  intro us H v H' hS μ args w ha hH
  unfold sumO at hS
  split at hS
  · rename_i v2
    split at hS
    · rename_i hcond
      cases hS
      simp only [Bool.and_eq_true] at hcond
      have hl : H.n + L.length ≤ lim := Nat.le_of_ble_eq_true hcond.2
      have h2 := hcond.1
      unfold rdTwo at h2
      split at h2
      · rename_i a l c b l' c'
        simp only [Bool.and_eq_true, decide_eq_true_eq] at h2
        obtain ⟨⟨⟨rfl, rfl, rfl, rfl⟩, ra⟩, rb⟩ := h2
        obtain ⟨rwa', ga⟩ := rdBlk_is ra
        obtain ⟨rwb', gb⟩ := rdBlk_is rb
        obtain ⟨arg, hargs, hv⟩ : ∃ arg, args.toList = [arg] ∧ VR μ (.agg [.sl a 0 xs.length xs.length, .sl b 0 ys.length ys.length]) arg := by
          generalize args.toList = l at ha
          cases ha with
          | cons q1 q2 => cases q2; exact ⟨_, rfl, q1⟩
        cases hv with
        | @agg _ arr hv =>
        obtain ⟨x1, x2, hx, hv1, hv2⟩ : ∃ x1 x2, arr.toList = [x1, x2] ∧ VR μ (.sl a 0 xs.length xs.length) x1 ∧ VR μ (.sl b 0 ys.length ys.length) x2 := by
          generalize arr.toList = l at hv
          cases hv with
          | cons q1 q2 => cases q2 with
            | cons q3 q4 => cases q4; exact ⟨_, _, rfl, q1, q3⟩
        cases hv1 with
        | @sl _ _ _ _ ba hma =>
        cases hv2 with
        | @sl _ _ _ _ bb hmb =>
        have e0 : HR (fun _ => none) ⟨0, .nil⟩ w := ⟨by simp [PI.lim], fun _ _ => rfl, fun A bi hl hm => (by cases hm), fun A B a b _ _ _ hm => (by cases hm)⟩
        have o0 : ∀ A, ((⟨0, .nil⟩ : Heap).get A).own = false := fun A => by rw [Heap.get_out (Nat.zero_le _)]; rfl
        obtain ⟨e1, o1⟩ := push_ro e0 (by simp [PI.lim]) o0 (blk_ro (ν := M.set (fun _ => none) 0 ba) hH ga hma).1 (blk_ro hH ga hma).2
        obtain ⟨e2, o2⟩ := push_ro e1 (by show 1 < PI.lim; simp [PI.lim]) o1 (blk_ro (ν := M.set (M.set (fun _ => none) 0 ba) 1 bb) hH gb hmb).1 (blk_ro hH gb hmb).2
        have hno : ∀ k, ¬ Own (M.set (M.set (fun _ => none) 0 ba) 1 bb) (twoH ty xs ys) k := fun k => by
          rintro ⟨A, a, hoA, -⟩
          rw [show ((twoH ty xs ys).get A).own = false from o2 A] at hoA
          cases hoA
        have hvs : VRs (M.set (M.set (fun _ => none) 0 ba) 1 bb) [twoV xs ys] args.toList := by
          rw [hargs]
          refine .cons (.agg ?_) .nil
          rw [hx]
          exact .cons (.sl (bi := ba) (by rfl)) (.cons (.sl (bi := bb) (by rfl)) .nil)
        rcases callF_sim hC (sound hC n) h hvs e2 with ⟨u, w', h1, h2⟩ | ⟨h1, h2⟩
        · exact .inl ⟨u, w', h1, frame_val0 hno hH hl h2 hc⟩
        · refine .inr ⟨h1, fun F m hF => (h2 F m hF).mono ?_⟩
          rintro e w' ⟨u, rfl, hE⟩
          exact ⟨u, rfl, frame_val0 hno hH hl hE hc⟩
      · cases h2
    · cases hS
  · cases hS
/-- a run and its pattern, as one closed fact for the kernel -/
def runIs (r : Option (AV × Heap)) (ks : List Nat) (L : List (TypeId × List AV)) (v0 : AV) : Bool :=
  match r with
  | some (v1, H1) => chkRun ks L v0 v1 H1
  | none => false
theorem runIs_some {r : Option (AV × Heap)} {ks : List Nat} {L : List (TypeId × List AV)} {v0 : AV} (h : runIs r ks L v0 = true) : ∃ v1 H1, r = some (v1, H1) ∧ chkRun ks L v0 v1 H1 = true := by
  unfold runIs at h
  split at h
  · exact ⟨_, _, rfl, h⟩
  · cases h
end Go.PI
/- A REGION WHOSE ORDER IS OPEN, in which memory only grows but for the last operation. -/
namespace Go.PI
def ldsP (C : Ctx) (ops : List Oper) (H0 : Heap) : List Oper → List (List AV × Heap) → Prop
  | o :: os, (T, _) :: tr => (match o.op with
    | .load t x => (match Region.wanted o (ayielded ops T) with
      | true => ∃ b off v, opd T x = some (.ptr b off) ∧ b < H0.n ∧ loadE C t (.ptr b off) H0 = some v ∧ v.same v = true
      | false => True)
    | _ => True) ∧ ldsP C ops H0 os tr
  | _, _ => True
/-- all but the last state have what there was -/
def grP (H0 : Heap) : List (List AV × Heap) → Prop
  | [] => True
  | [_] => True
  | x :: y :: r => (∀ A, A < H0.n → x.2.get A = H0.get A) ∧ grP H0 (y :: r)
def mnP : List (List AV × Heap) → Prop
  | [] => True
  | [_] => True
  | x :: y :: r => x.2.n ≤ y.2.n ∧ mnP (y :: r)
def isLoad (o : Oper) : Bool :=
  match o.op with
  | .load _ _ => true
  | _ => false
/-- no load may come up behind the last operation -/
def lastOk (C : Ctx) (ops : List Oper) (pre : List Nat) (m : Nat) : List Oper → Nat → Bool
  | [], _ => true
  | o :: os, i => (!isLoad o || !(isBd C ops m && mayAt C ops pre i m ops 0)) && lastOk C ops pre m os (i + 1)
def noAlloc (C : Ctx) : List Oper → Bool
  | [] => true
  | o :: os => (match kindOf C o.op with | .alloc => false | _ => true) && noAlloc C os
theorem load_get {C : Ctx} {t : TypeId} {b o : Nat} {H H' : Heap} (h : H'.get b = H.get b) : loadE C t (.ptr b o) H' = loadE C t (.ptr b o) H := by
  cases ht : C.ty t with
  | none => simp only [loadE, ht]
  | some i => simp only [loadE, ht, h]
theorem mono_of : ∀ {tr : List (List AV × Heap)}, mnP tr → monoOk tr = true
  | [], _ => rfl
  | [_], _ => rfl
  | (_, H) :: (T, H') :: r, h => by
    have := mono_of (tr := (T, H') :: r) h.2
    simp only [monoOk, this, Bool.and_true, decide_eq_true_eq]
    exact h.1
theorem allocs_of {C : Ctx} {ops : List Oper} {pre : List Nat} {all : List (List AV × Heap)} : ∀ (os : List Oper) (tr : List (List AV × Heap)) (i : Nat), noAlloc C os = true → allocsOk C ops pre all os tr i = true
  | [], tr, _, _ => by cases tr <;> rfl
  | o :: os, [], _, _ => rfl
  | o :: os, (T, H) :: tr, i, h => by
    simp only [noAlloc, Bool.and_eq_true] at h
    simp only [allocsOk]
    rw [allocs_of os tr (i + 1) h.2, Bool.and_true]
    have h1 := h.1
    cases hk : kindOf C o.op <;> simp only [hk] at h1 ⊢
    cases h1
theorem loadAts_of {C : Ctx} {ops : List Oper} {pre : List Nat} {i : Nat} {t : TypeId} {b off : Nat} {v : AV} {H0 : Heap} {m : Nat} (hb : b < H0.n) (hl : loadE C t (.ptr b off) H0 = some v) (hs : v.same v = true) (hlast : (isBd C ops m && mayAt C ops pre i m ops 0) = false) :
    ∀ (tr : List (List AV × Heap)) (p : Nat), grP H0 tr → p + tr.length = m + 1 → loadAts C ops pre i t (.ptr b off) v tr p = true
  | [], _, _, _ => rfl
  | [(T, H)], p, _, hp => by
    have : p = m := by simpa using hp
    subst this
    simp only [loadAts, hlast, Bool.not_false, Bool.true_or, Bool.true_and]
  | (T, H) :: y :: r, p, hg, hp => by
    simp only [loadAts]
    have h2 := loadAts_of hb hl hs hlast (y :: r) (p + 1) hg.2 (by simp at hp ⊢; omega)
    rw [load_get (hg.1 b hb), hl]
    simp only [hs, Bool.or_true, Bool.true_and]
    exact h2
theorem loads_of {C : Ctx} {ops : List Oper} {pre : List Nat} {all : List (List AV × Heap)} {H0 : Heap} {m : Nat} (hall : grP H0 all) (hlen : all.length = m + 1) : ∀ (os : List Oper) (tr : List (List AV × Heap)) (i : Nat), ldsP C ops H0 os tr → grP H0 tr → os.length < tr.length → lastOk C ops pre m os i = true → loadsOk C ops pre all os tr i = true
  | [], tr, _, _, _, _, _ => by cases tr <;> rfl
  | o :: os, [], _, _, _, _, _ => rfl
  | o :: os, [(T, H)], _, _, _, h, _ => by simp at h
  | o :: os, (T, H) :: y :: tr, i, h, hg, hl, hlast => by
    simp only [lastOk, Bool.and_eq_true] at hlast
    simp only [loadsOk]
    rw [loads_of hall hlen os (y :: tr) (i + 1) h.2 hg.2 (by simp at hl ⊢; omega) hlast.2, Bool.and_true]
    have h1 := h.1
    cases ho : o.op <;> simp only [ho] at h1 ⊢
    rename_i t x
    cases hw : Region.wanted o (ayielded ops T) with
    | false => simp
    | true =>
      simp only [hw] at h1
      obtain ⟨b, off, v, e1, e2, e3, e4⟩ := h1
      simp only [if_true, e1]
      rw [load_get (hg.1 b e2), e3]
      have hl1 : (isBd C ops m && mayAt C ops pre i m ops 0) = false := by
        have := hlast.1
        simp only [isLoad, ho, Bool.not_true, Bool.false_or, Bool.not_eq_true'] at this
        exact this
      exact loadAts_of e2 e3 e4 hl1 all 0 hall (by omega)
/-- what is static of it -/
def growS (C : Ctx) (ops : List Oper) : Bool := orderOk C ops (preList ops []) ops 0 && lastOk C ops (preList ops []) ops.length ops 0 && noAlloc C ops
theorem draw_of {C : Ctx} {ops : List Oper} {tr : List (List AV × Heap)} (H0 : Heap) (hs : growS C ops = true) (hlen : tr.length = ops.length + 1) (hl : ldsP C ops H0 ops tr) (hg : grP H0 tr) (hm : mnP tr) : drawOk C ops tr = true := by
  simp only [growS, Bool.and_eq_true] at hs
  unfold drawOk
  simp only [hs.1.1, loads_of hg hlen ops tr 0 hl hg (by omega) hs.1.2, allocs_of ops tr 0 hs.2, mono_of hm, Bool.and_self]
end Go.PI
/- PLAIN VALUES: slices that nobody writes any more stand for their contents; blocks of a function's own stand in a store. -/
namespace Go.PI
inductive PV where
  | int (k : IntKind) (n : Int)
  | bool (b : Bool)
  | str (s : ByteArray)
  | nilp
  | nilf
  | nilm
  | nili
  | fn (f : Nat)
  /-- a function with what it has captured -/
  | fnc (f : Nat) (cs : List PV)
  /-- a map of our own -/
  | omap (i : Nat)
  | nils
  /-- a slice of n elements with these cells -/
  | lst (n : Nat) (cs : List PV)
  /-- a pointer to these cells -/
  | lptr (cs : List PV)
  /-- a slice of a block of our own; e is the size of an element -/
  | own (i o n c e : Nat)
  /-- one that append has made -/
  | ownu (i n e : Nat)
  /-- one that append has made, without its first elements -/
  | ownq (i o n e : Nat)
  | optr (i o : Nat)
  /-- a pointer to cells that are not ours to write, and that is ours for the length of a call -/
  | bptr (cs : List PV)
  | agg (cs : List PV)
  | tup (vs : List PV)
  deriving Inhabited
abbrev pn (n : Int) : PV := .int .i64 n
def undefP : PV := .tup []
/-- p is what a stands for; nothing in it lies in W, the blocks that may still be written -/
inductive RelC (H : Heap) (W : Nat → Prop) : PV → AV → Prop
  | int (k : IntKind) (n : Int) : RelC H W (.int k n) (.int k n)
  | bool (b : Bool) : RelC H W (.bool b) (.bool b)
  | str (s : ByteArray) : RelC H W (.str s) (.str s)
  | nilp : RelC H W .nilp .nilp
  | nilf : RelC H W .nilf .nilf
  | nilm : RelC H W .nilm .nilm
  | nili : RelC H W .nili .nili
  | fn (f : Nat) : RelC H W (.fn f) (.fn f [] [])
  | fnc (f : Nat) {cs : List PV} {as : List AV} (h : All2 (RelC H W) cs as) : RelC H W (.fnc f cs) (.fn f [] as)
  | lnil : RelC H W (.lst 0 []) .nils
  | lsle : RelC H W (.lst 0 []) .sle
  | sl {n : Nat} {cs : List PV} {b o c : Nat} {rw : Bool} {ty : TypeId} {bcs : List AV} (hW : ¬ W b) (hg : H.get b = .cells rw ty bcs) (hb : o + cs.length ≤ bcs.length) (hc : n ≤ c) (h : All2 (RelC H W) cs ((bcs.drop o).take cs.length)) : RelC H W (.lst n cs) (.sl b o n c)
  | slu {n : Nat} {cs : List PV} {b o e : Nat} {rw : Bool} {ty : TypeId} {bcs : List AV} (hW : ¬ W b) (hg : H.get b = .cells rw ty bcs) (hb : o + cs.length ≤ bcs.length) (he : cs.length = n * e ∧ (n = 0 → e = 1)) (h : All2 (RelC H W) cs ((bcs.drop o).take cs.length)) : RelC H W (.lst n cs) (.slu b o n e)
  | lptr {cs : List PV} {b o : Nat} {rw : Bool} {ty : TypeId} {bcs : List AV} (hW : ¬ W b) (hg : H.get b = .cells rw ty bcs) (hb : o + cs.length ≤ bcs.length) (h : All2 (RelC H W) cs ((bcs.drop o).take cs.length)) : RelC H W (.lptr cs) (.ptr b o)
  | agg {cs : List PV} {as : List AV} (h : All2 (RelC H W) cs as) : RelC H W (.agg cs) (.agg as)
  | tup {cs : List PV} {as : List AV} (h : All2 (RelC H W) cs as) : RelC H W (.tup cs) (.tup as)
inductive RelV (H : Heap) (W : Nat → Prop) (β : List Nat) : PV → AV → Prop
  | clo {p : PV} {a : AV} (h : RelC H W p a) : RelV H W β p a
  | nils : RelV H W β .nils .nils
  | fnc (f : Nat) {cs : List PV} {as : List AV} (h : All2 (RelV H W β) cs as) : RelV H W β (.fnc f cs) (.fn f [] as)
  | omap {i b : Nat} (h : β[i]? = some b) : RelV H W β (.omap i) (.mp b)
  | own {i b : Nat} (o n c e : Nat) (h : β[i]? = some b) : RelV H W β (.own i o n c e) (.sl b o n c)
  | ownu {i b : Nat} (n e : Nat) (h : β[i]? = some b) : RelV H W β (.ownu i n e) (.slu b 0 n e)
  | ownq {i b : Nat} (o n e : Nat) (h : β[i]? = some b) : RelV H W β (.ownq i o n e) (.slu b o n e)
  | optr {i b : Nat} (o : Nat) (h : β[i]? = some b) : RelV H W β (.optr i o) (.ptr b o)
  | bptr {cs : List PV} {b o : Nat} {rw : Bool} {ty : TypeId} {bcs : List AV} (hn : ∀ i : Nat, β[i]? ≠ some b) (hg : H.get b = .cells rw ty bcs) (hb : o + cs.length ≤ bcs.length) (h : All2 (RelC H W) cs ((bcs.drop o).take cs.length)) : RelV H W β (.bptr cs) (.ptr b o)
  | agg {cs : List PV} {as : List AV} (h : All2 (RelV H W β) cs as) : RelV H W β (.agg cs) (.agg as)
  | tup {cs : List PV} {as : List AV} (h : All2 (RelV H W β) cs as) : RelV H W β (.tup cs) (.tup as)
theorem Heap.lt_cells {H : Heap} {b : Nat} {rw : Bool} {ty : TypeId} {cs : List AV} (h : H.get b = .cells rw ty cs) : b < H.n := Heap.lt_of_get (by rw [h]; simp)
/-- what there was that nobody may write is as it was -/
structure Ext (W : Nat → Prop) (β : List Nat) (H : Heap) (W' : Nat → Prop) (β' : List Nat) (H' : Heap) : Prop where
  n : H.n ≤ H'.n
  get : ∀ A, A < H.n → ¬ W A → H'.get A = H.get A
  w : ∀ A, A < H.n → W' A → W A
  bt : ∀ (i b : Nat), β[i]? = some b → β'[i]? = some b
  o : ∀ A, A < H.n → (∀ i : Nat, β[i]? ≠ some A) → H'.get A = H.get A
  bk : ∀ (i x : Nat), β'[i]? = some x → x < H.n → ∃ j : Nat, β[j]? = some x
theorem Ext.refl (W : Nat → Prop) (β : List Nat) (H : Heap) : Ext W β H W β H := ⟨Nat.le_refl _, fun _ _ _ => rfl, fun _ _ h => h, fun _ _ h => h, fun _ _ _ => rfl, fun i _ h _ => ⟨i, h⟩⟩
theorem Ext.trans {W W' W'' : Nat → Prop} {β β' β'' : List Nat} {H H' H'' : Heap} (h : Ext W β H W' β' H') (k : Ext W' β' H' W'' β'' H'') : Ext W β H W'' β'' H'' :=
  ⟨Nat.le_trans h.n k.n, fun A hA hW => by rw [k.get A (Nat.lt_of_lt_of_le hA h.n) fun hw => hW (h.w A hA hw), h.get A hA hW], fun A hA hw => h.w A hA (k.w A (Nat.lt_of_lt_of_le hA h.n) hw), fun i b hb => k.bt i b (h.bt i b hb), fun A hA hn => by
    rw [k.o A (Nat.lt_of_lt_of_le hA h.n) (fun i hi => by obtain ⟨j, hj⟩ := h.bk i A hi hA; exact hn j hj), h.o A hA hn],
   fun i x hx hl => by
    obtain ⟨j, hj⟩ := k.bk i x hx (Nat.lt_of_lt_of_le hl h.n)
    exact h.bk j x hj hl⟩
theorem RelC.mono {H H' : Heap} {W W' : Nat → Prop} (hg : ∀ A, A < H.n → ¬ W A → H'.get A = H.get A) (hw : ∀ A, A < H.n → W' A → W A) {p : PV} {a : AV} (h : RelC H W p a) : RelC H' W' p a := by
  induction h using RelC.rec (motive_2 := fun ps as _ => All2 (RelC H' W') ps as) with
  | int k n => exact .int k n
  | bool b => exact .bool b
  | str s => exact .str s
  | nilp => exact .nilp
  | nilf => exact .nilf
  | nilm => exact .nilm
  | nili => exact .nili
  | fn f => exact .fn f
  | fnc f _ ih => exact .fnc f ih
  | lnil => exact .lnil
  | lsle => exact .lsle
  | sl hW h1 hb hc _ ih => exact .sl (fun x => hW (hw _ (Heap.lt_cells h1) x)) ((hg _ (Heap.lt_cells h1) hW).trans h1) hb hc ih
  | slu hW h1 hb hc _ ih => exact .slu (fun x => hW (hw _ (Heap.lt_cells h1) x)) ((hg _ (Heap.lt_cells h1) hW).trans h1) hb hc ih
  | lptr hW h1 hb _ ih => exact .lptr (fun x => hW (hw _ (Heap.lt_cells h1) x)) ((hg _ (Heap.lt_cells h1) hW).trans h1) hb ih
  | agg _ ih => exact .agg ih
  | tup _ ih => exact .tup ih
  | nil => exact .nil
  | cons _ _ i1 i2 => exact .cons i1 i2
theorem RelC.ext {H H' : Heap} {W W' : Nat → Prop} {β β' : List Nat} (e : Ext W β H W' β' H') {p : PV} {a : AV} (h : RelC H W p a) : RelC H' W' p a := h.mono e.get e.w
theorem RelCs.ext {H H' : Heap} {W W' : Nat → Prop} {β β' : List Nat} (e : Ext W β H W' β' H') {ps : List PV} {as : List AV} (h : All2 (RelC H W) ps as) : All2 (RelC H' W') ps as := All2.mono' (fun _ _ => RelC.ext e) h
theorem RelV.ext {H H' : Heap} {W W' : Nat → Prop} {β β' : List Nat} (e : Ext W β H W' β' H') {p : PV} {a : AV} (h : RelV H W β p a) : RelV H' W' β' p a := by
  induction h using RelV.rec (motive_2 := fun ps as _ => All2 (RelV H' W' β') ps as) with
  | clo h => exact .clo (h.ext e)
  | nils => exact .nils
  | fnc f _ ih => exact .fnc f ih
  | omap h => exact .omap (e.bt _ _ h)
  | own o n c z h => exact .own o n c z (e.bt _ _ h)
  | ownu n z h => exact .ownu n z (e.bt _ _ h)
  | ownq o n z h => exact .ownq o n z (e.bt _ _ h)
  | optr o h => exact .optr o (e.bt _ _ h)
  | bptr hn hg hb h => exact .bptr (fun i hi => by obtain ⟨j, hj⟩ := e.bk i _ hi (Heap.lt_cells hg); exact hn j hj) ((e.o _ (Heap.lt_cells hg) hn).trans hg) hb (RelCs.ext e h)
  | agg _ ih => exact .agg ih
  | tup _ ih => exact .tup ih
  | nil => exact .nil
  | cons _ _ i1 i2 => exact .cons i1 i2
theorem RelVs.ext {H H' : Heap} {W W' : Nat → Prop} {β β' : List Nat} (e : Ext W β H W' β' H') {ps : List PV} {as : List AV} (h : All2 (RelV H W β) ps as) : All2 (RelV H' W' β') ps as := All2.mono' (fun _ _ => RelV.ext e) h
theorem RelVs.clo {H : Heap} {W : Nat → Prop} {β : List Nat} {ps : List PV} {as : List AV} (h : All2 (RelC H W) ps as) : All2 (RelV H W β) ps as := All2.mono' (fun _ _ h => .clo h) h
/-- entries of a map -/
def EntP (H : Heap) (W : Nat → Prop) (e : Int × PV) (a : Int × AV) : Prop := e.1 = a.1 ∧ RelC H W e.2 a.2
theorem EntPs.ext {H H' : Heap} {W W' : Nat → Prop} {β β' : List Nat} (e : Ext W β H W' β' H') {ps : List (Int × PV)} {as : List (Int × AV)} (h : All2 (EntP H W) ps as) : All2 (EntP H' W') ps as := All2.mono' (fun _ _ h => ⟨h.1, h.2.ext e⟩) h
inductive StB where
  | dead
  | live (ty : TypeId) (cs : List PV)
  | frz (ty : TypeId) (cs : List PV)
  /-- one whose cells may be slices and pointers of our own -/
  | liv (ty : TypeId) (cs : List PV)
  /-- a map -/
  | mp (k : IntKind) (es : List (Int × PV))
def StB.cont : StB → Option (TypeId × List PV)
  | .dead => none
  | .live t cs => some (t, cs)
  | .frz t cs => some (t, cs)
  | .liv _ _ => none
  | .mp _ _ => none
def livOf (σ : List StB) (i : Nat) : Option (TypeId × List PV) :=
  match σ[i]? with
  | some (.liv t cs) => some (t, cs)
  | _ => none
def contOf (σ : List StB) (i : Nat) : Option (TypeId × List PV) :=
  match σ[i]? with
  | some b => b.cont
  | none => none
/-- the store stands for blocks of the heap -/
structure Sto (H0 : Heap) (W0 : Nat → Prop) (c : Nat) (σ : List StB) (k : Nat) (W : Nat → Prop) (β : List Nat) (H : Heap) : Prop where
  room : H0.n + c < lim
  kc : k ≤ c
  lo : H0.n ≤ H.n
  hi : H.n ≤ H0.n + k
  keep : ∀ A, A < H0.n → H.get A = H0.get A
  w0n : ∀ b, W0 b → b < H0.n
  w0 : ∀ b, W0 b → W b
  wn : ∀ b, W b → W0 b ∨ (H0.n ≤ b ∧ b < H.n)
  len : β.length = σ.length
  bl : ∀ (i b : Nat), β[i]? = some b → H0.n ≤ b ∧ b < H.n
  live : ∀ (i : Nat) (ty : TypeId) (cs : List PV) (b : Nat), σ[i]? = some (.live ty cs) → β[i]? = some b → W b ∧ ∃ acs, H.get b = .cells true ty acs ∧ All2 (RelC H W) cs acs
  frz : ∀ (i : Nat) (ty : TypeId) (cs : List PV) (b : Nat), σ[i]? = some (.frz ty cs) → β[i]? = some b → ¬ W b ∧ ∃ rw acs, H.get b = .cells rw ty acs ∧ All2 (RelC H W) cs acs
  inj : ∀ (i j b : Nat), β[i]? = some b → β[j]? = some b → i = j
  liv : ∀ (i : Nat) (ty : TypeId) (cs : List PV) (b : Nat), σ[i]? = some (.liv ty cs) → β[i]? = some b → W b ∧ ∃ acs, H.get b = .cells true ty acs ∧ All2 (RelV H W β) cs acs
  map : ∀ (i : Nat) (kd : IntKind) (es : List (Int × PV)) (b : Nat), σ[i]? = some (.mp kd es) → β[i]? = some b → W b ∧ ∃ aes, H.get b = .map kd aes ∧ All2 (EntP H W) es aes
theorem Sto.blk {H0 H : Heap} {W0 : Nat → Prop} {c k : Nat} {σ : List StB} {W : Nat → Prop} {β : List Nat} (I : Sto H0 W0 c σ k W β H) {i : Nat} {b : StB} (h : σ[i]? = some b) : ∃ n, β[i]? = some n := by
  have := (List.getElem?_eq_some_iff.1 h).1
  exact ⟨_, List.getElem?_eq_getElem (by have := I.len; omega)⟩
theorem Sto.cont {H0 H : Heap} {W0 : Nat → Prop} {c k : Nat} {σ : List StB} {W : Nat → Prop} {β : List Nat} (I : Sto H0 W0 c σ k W β H) {i : Nat} {ty : TypeId} {cs : List PV} {b : Nat} (h : contOf σ i = some (ty, cs)) (hb : β[i]? = some b) :
    ∃ rw acs, H.get b = .cells rw ty acs ∧ All2 (RelC H W) cs acs := by
  unfold contOf at h
  cases hs : σ[i]? with
  | none => rw [hs] at h; cases h
  | some x =>
    rw [hs] at h
    cases x with
    | dead => cases h
    | live t l => cases h; obtain ⟨-, acs, h1, h2⟩ := I.live i _ _ b hs hb; exact ⟨true, acs, h1, h2⟩
    | frz t l => cases h; obtain ⟨-, h1⟩ := I.frz i _ _ b hs hb; exact h1
    | liv t l => cases h
    | mp t l => cases h
/-- a block is written no more -/
theorem Sto.freeze {H0 H : Heap} {W0 : Nat → Prop} {c k : Nat} {σ : List StB} {W : Nat → Prop} {β : List Nat} (I : Sto H0 W0 c σ k W β H) {i : Nat} {ty : TypeId} {cs : List PV} (h : contOf σ i = some (ty, cs)) :
    ∃ W' b, β[i]? = some b ∧ Ext W β H W' β H ∧ Sto H0 W0 c (σ.set i (.frz ty cs)) k W' β H ∧ ¬ W' b ∧ ∃ rw acs, H.get b = .cells rw ty acs ∧ All2 (RelC H W') cs acs := by
  have hi : ∃ x, σ[i]? = some x := by
    unfold contOf at h
    cases hs : σ[i]? with
    | none => rw [hs] at h; cases h
    | some x => exact ⟨x, rfl⟩
  obtain ⟨x, hx⟩ := hi
  obtain ⟨b, hb⟩ := I.blk hx
  obtain ⟨rw, acs, h1, h2⟩ := I.cont h hb
  have E : Ext W β H (fun A => W A ∧ A ≠ b) β H := ⟨Nat.le_refl _, fun _ _ _ => rfl, fun A _ h => h.1, fun _ _ h => h, fun _ _ _ => rfl, fun i _ h _ => ⟨i, h⟩⟩
  refine ⟨fun A => W A ∧ A ≠ b, b, hb, E, ⟨I.room, I.kc, I.lo, I.hi, I.keep, I.w0n, fun A h => ⟨I.w0 A h, fun e => by have h1 := I.w0n A h; have h2 := (I.bl i b hb).1; omega⟩, fun A h => I.wn A h.1, by simp [I.len], I.bl, fun j t l d hj hd => ?_, fun j t l d hj hd => ?_, I.inj, fun j t l d hj hd => ?_, fun j t l d hj hd => ?_⟩, fun h => h.2 rfl, rw, acs, h1, RelCs.ext E h2⟩
  · have hji : j ≠ i := fun e => by
      subst e
      rw [List.getElem?_set_self (List.getElem?_eq_some_iff.1 hx).1] at hj
      cases hj
    rw [List.getElem?_set_ne (Ne.symm hji)] at hj
    obtain ⟨q1, q2, q3, q4⟩ := I.live j t l d hj hd
    exact ⟨⟨q1, fun e => by subst e; exact hji (I.inj j i _ hd hb)⟩, q2, q3, RelCs.ext E q4⟩
  · by_cases hji : j = i
    · subst hji
      rw [List.getElem?_set_self (List.getElem?_eq_some_iff.1 hx).1] at hj
      cases hj
      rw [hb] at hd
      cases hd
      exact ⟨fun h => h.2 rfl, rw, acs, h1, RelCs.ext E h2⟩
    · rw [List.getElem?_set_ne (Ne.symm hji)] at hj
      obtain ⟨q1, q2, q3, q4, q5⟩ := I.frz j t l d hj hd
      exact ⟨fun h => q1 h.1, q2, q3, q4, RelCs.ext E q5⟩
  · have hji : j ≠ i := fun e => by
      subst e
      rw [List.getElem?_set_self (List.getElem?_eq_some_iff.1 hx).1] at hj
      cases hj
    rw [List.getElem?_set_ne (Ne.symm hji)] at hj
    obtain ⟨q1, q2, q3, q4⟩ := I.liv j t l d hj hd
    exact ⟨⟨q1, fun e => by subst e; exact hji (I.inj j i _ hd hb)⟩, q2, q3, RelVs.ext E q4⟩
  · have hji : j ≠ i := fun e => by
      subst e
      rw [List.getElem?_set_self (List.getElem?_eq_some_iff.1 hx).1] at hj
      cases hj
    rw [List.getElem?_set_ne (Ne.symm hji)] at hj
    obtain ⟨q1, q2, q3, q4⟩ := I.map j t l d hj hd
    exact ⟨⟨q1, fun e => by subst e; exact hji (I.inj j i _ hd hb)⟩, q2, q3, EntPs.ext E q4⟩
/-! ### Values that nobody writes any more -/
def frzK (σ : List StB) (p : PV) (K : PV → List StB → Prop) : Prop :=
  match p with
  | .own i o n c e => ∃ ty cs cs', contOf σ i = some (ty, cs) ∧ (o + n * e ≤ cs.length ∧ n ≤ c) ∧ (cs.drop o).take (n * e) = cs' ∧ K (.lst n cs') (σ.set i (.frz ty cs))
  | .ownu i n e => ∃ ty cs cs', contOf σ i = some (ty, cs) ∧ (n * e ≤ cs.length ∧ (n = 0 → e = 1)) ∧ cs.take (n * e) = cs' ∧ K (.lst n cs') (σ.set i (.frz ty cs))
  | .ownq i o n e => ∃ ty cs cs', contOf σ i = some (ty, cs) ∧ (o + n * e ≤ cs.length ∧ (n = 0 → e = 1)) ∧ (cs.drop o).take (n * e) = cs' ∧ K (.lst n cs') (σ.set i (.frz ty cs))
  | .optr i o => ∃ ty cs, contOf σ i = some (ty, cs) ∧ o ≤ cs.length ∧ K (.lptr (cs.drop o)) (σ.set i (.frz ty cs))
  | .nils => K (.lst 0 []) σ
  | .int k n => K (.int k n) σ
  | .bool b => K (.bool b) σ
  | .str s => K (.str s) σ
  | .nilp => K .nilp σ
  | .nilf => K .nilf σ
  | .nilm => K .nilm σ
  | .nili => K .nili σ
  | .fn f => K (.fn f) σ
  | .lst n cs => K (.lst n cs) σ
  | .lptr cs => K (.lptr cs) σ
  | .bptr _ => False
  | .agg _ => False
  | .tup _ => False
  | .fnc _ _ => False
  | .omap _ => False
def frzsK (σ : List StB) : List PV → (List PV → List StB → Prop) → Prop
  | [], K => K [] σ
  | p :: ps, K => frzK σ p fun p' σ' => frzsK σ' ps fun ps' σ'' => K (p' :: ps') σ''
def frzAK (σ : List StB) (p : PV) (K : PV → List StB → Prop) : Prop :=
  match p with
  | .agg cs => frzsK σ cs fun cs' σ' => K (.agg cs') σ'
  | .fnc f cs => frzsK σ cs fun cs' σ' => K (.fnc f cs') σ'
  | p => frzK σ p K
def frzAsK (σ : List StB) : List PV → (List PV → List StB → Prop) → Prop
  | [], K => K [] σ
  | p :: ps, K => frzAK σ p fun p' σ' => frzAsK σ' ps fun ps' σ'' => K (p' :: ps') σ''
/-- a store whose blocks have the contents that they had -/
def Same (σ σ' : List StB) : Prop := ∀ i, i < σ.length → contOf σ i = contOf σ' i
theorem Same.refl (σ : List StB) : Same σ σ := fun _ _ => rfl
theorem contOf_set {σ : List StB} {i : Nat} {ty : TypeId} {cs : List PV} (h : contOf σ i = some (ty, cs)) (j : Nat) : contOf (σ.set i (.frz ty cs)) j = contOf σ j := by
  have hi : i < σ.length := by
    unfold contOf at h
    cases hs : σ[i]? with
    | none => rw [hs] at h; cases h
    | some x => exact (List.getElem?_eq_some_iff.1 hs).1
  by_cases e : j = i
  · subst e
    rw [h]
    unfold contOf
    rw [List.getElem?_set_self hi]
    rfl
  · unfold contOf
    rw [List.getElem?_set_ne (Ne.symm e)]
theorem livOf_set {σ : List StB} {i : Nat} {ty : TypeId} {cs : List PV} (h : contOf σ i = some (ty, cs)) (j : Nat) : livOf (σ.set i (.frz ty cs)) j = livOf σ j := by
  have hi : i < σ.length := by
    unfold contOf at h
    cases hs : σ[i]? with
    | none => rw [hs] at h; cases h
    | some x => exact (List.getElem?_eq_some_iff.1 hs).1
  by_cases e : j = i
  · subst e
    have : livOf σ j = none := by
      unfold contOf at h
      unfold livOf
      cases hs : σ[j]? with
      | none => rfl
      | some x => rw [hs] at h; cases x <;> first | rfl | cases h
    rw [this]
    unfold livOf
    rw [List.getElem?_set_self hi]
  · unfold livOf
    rw [List.getElem?_set_ne (Ne.symm e)]
/-- the outcome of freezing -/
def FrzO (H0 : Heap) (W0 : Nat → Prop) (c k : Nat) (σ : List StB) (W : Nat → Prop) (β : List Nat) (H : Heap) (σ' : List StB) (W' : Nat → Prop) : Prop := Ext W β H W' β H ∧ Sto H0 W0 c σ' k W' β H ∧ σ'.length = σ.length ∧ (∀ j, contOf σ' j = contOf σ j) ∧ ∀ j, livOf σ' j = livOf σ j
theorem frzK_ok {H0 H : Heap} {W0 : Nat → Prop} {c k : Nat} {σ : List StB} {W : Nat → Prop} {β : List Nat} {p : PV} {a : AV} {K : PV → List StB → Prop} (h : frzK σ p K) (I : Sto H0 W0 c σ k W β H) (hr : RelV H W β p a) :
    ∃ p' σ' W', FrzO H0 W0 c k σ W β H σ' W' ∧ RelC H W' p' a ∧ K p' σ' := by
  have triv : ∀ {p'}, RelC H W p' a → K p' σ → ∃ p' σ' W', FrzO H0 W0 c k σ W β H σ' W' ∧ RelC H W' p' a ∧ K p' σ' := fun h1 h2 => ⟨_, σ, W, ⟨Ext.refl _ _ _, I, rfl, fun _ => rfl, fun _ => rfl⟩, h1, h2⟩
  cases hr with
  | nils => exact triv .lnil h
  | bptr => exact h.elim
  | agg h' => exact h.elim
  | tup h' => exact h.elim
  | fnc f h' => exact h.elim
  | omap h' => exact h.elim
  | own o n cp e hb =>
    obtain ⟨ty, cs, cs', h1, h2, rfl, h3⟩ := h
    obtain ⟨W', b, q1, q2, q3, q4, rw, acs, q5, q6⟩ := I.freeze h1
    rw [hb] at q1
    cases q1
    have hl := q6.length
    refine ⟨_, _, W', ⟨q2, q3, by simp, fun j => contOf_set h1 j, fun j => livOf_set h1 j⟩, .sl q4 q5 ?_ h2.2 ?_, h3⟩
    · simp; omega
    · have : (List.take (n * e) (List.drop o cs)).length = n * e := by simp; omega
      rw [this]
      exact (q6.drop o).take _
  | ownu n e hb =>
    obtain ⟨ty, cs, cs', h1, h2, rfl, h3⟩ := h
    obtain ⟨W', b, q1, q2, q3, q4, rw, acs, q5, q6⟩ := I.freeze h1
    rw [hb] at q1
    cases q1
    have hl := q6.length
    refine ⟨_, _, W', ⟨q2, q3, by simp, fun j => contOf_set h1 j, fun j => livOf_set h1 j⟩, .slu q4 q5 ?_ ⟨?_, h2.2⟩ ?_, h3⟩
    · simp; omega
    · simp; omega
    · have : (List.take (n * e) cs).length = n * e := by simp; omega
      rw [this]
      exact (q6.drop 0).take _
  | ownq o n e hb =>
    obtain ⟨ty, cs, cs', h1, h2, rfl, h3⟩ := h
    obtain ⟨W', b, q1, q2, q3, q4, rw, acs, q5, q6⟩ := I.freeze h1
    rw [hb] at q1
    cases q1
    have hl := q6.length
    refine ⟨_, _, W', ⟨q2, q3, by simp, fun j => contOf_set h1 j, fun j => livOf_set h1 j⟩, .slu q4 q5 ?_ ⟨?_, h2.2⟩ ?_, h3⟩
    · simp; omega
    · simp; omega
    · have : (List.take (n * e) (List.drop o cs)).length = n * e := by simp; omega
      rw [this]
      exact (q6.drop o).take _
  | optr o hb =>
    obtain ⟨ty, cs, h1, h2, h3⟩ := h
    obtain ⟨W', b, q1, q2, q3, q4, rw, acs, q5, q6⟩ := I.freeze h1
    rw [hb] at q1
    cases q1
    have hl := q6.length
    refine ⟨_, _, W', ⟨q2, q3, by simp, fun j => contOf_set h1 j, fun j => livOf_set h1 j⟩, .lptr q4 q5 ?_ ?_, h3⟩
    · simp; omega
    · have := (q6.drop o).take (cs.drop o).length
      rwa [List.take_of_length_le (Nat.le_refl _)] at this
  | clo h' =>
    cases h' with
    | int => exact triv (.int _ _) h
    | bool => exact triv (.bool _) h
    | str => exact triv (.str _) h
    | nilp => exact triv .nilp h
    | nilf => exact triv .nilf h
    | nilm => exact triv .nilm h
    | nili => exact triv .nili h
    | fn => exact triv (.fn _) h
    | lnil => exact triv .lnil h
    | lsle => exact triv .lsle h
    | sl a1 a2 a3 a4 a5 => exact triv (.sl a1 a2 a3 a4 a5) h
    | slu a1 a2 a3 a4 a5 => exact triv (.slu a1 a2 a3 a4 a5) h
    | lptr a1 a2 a3 a4 => exact triv (.lptr a1 a2 a3 a4) h
    | agg _ => exact h.elim
    | tup _ => exact h.elim
    | fnc _ _ => exact h.elim
theorem FrzO.trans {H0 H : Heap} {W0 : Nat → Prop} {c k : Nat} {σ σ' σ'' : List StB} {W W' W'' : Nat → Prop} {β : List Nat} (a : FrzO H0 W0 c k σ W β H σ' W') (b : FrzO H0 W0 c k σ' W' β H σ'' W'') : FrzO H0 W0 c k σ W β H σ'' W'' :=
  ⟨a.1.trans b.1, b.2.1, b.2.2.1.trans a.2.2.1, fun j => (b.2.2.2.1 j).trans (a.2.2.2.1 j), fun j => (b.2.2.2.2 j).trans (a.2.2.2.2 j)⟩
theorem frzsK_ok {H0 H : Heap} {W0 : Nat → Prop} {c k : Nat} {β : List Nat} : ∀ {ps : List PV} {σ : List StB} {W : Nat → Prop} {as : List AV} {K : List PV → List StB → Prop}, frzsK σ ps K → Sto H0 W0 c σ k W β H → All2 (RelV H W β) ps as →
    ∃ ps' σ' W', FrzO H0 W0 c k σ W β H σ' W' ∧ All2 (RelC H W') ps' as ∧ K ps' σ'
  | [], σ, W, as, K, h, I, hr => by
    cases hr
    exact ⟨[], σ, W, ⟨Ext.refl _ _ _, I, rfl, fun _ => rfl, fun _ => rfl⟩, .nil, h⟩
  | p :: ps, σ, W, as, K, h, I, hr => by
    cases hr with
    | cons h1 h2 =>
      obtain ⟨p', σ1, W1, f1, r1, h3⟩ := frzK_ok (show frzK σ p fun p' σ' => frzsK σ' ps fun ps' σ'' => K (p' :: ps') σ'' from h) I h1
      obtain ⟨ps', σ2, W2, f2, r2, h4⟩ := frzsK_ok h3 f1.2.1 (RelVs.ext f1.1 h2)
      exact ⟨p' :: ps', σ2, W2, f1.trans f2, .cons (r1.ext f2.1) r2, h4⟩
theorem frzAK_ok {H0 H : Heap} {W0 : Nat → Prop} {c k : Nat} {σ : List StB} {W : Nat → Prop} {β : List Nat} {p : PV} {a : AV} {K : PV → List StB → Prop} (h : frzAK σ p K) (I : Sto H0 W0 c σ k W β H) (hr : RelV H W β p a) :
    ∃ p' σ' W', FrzO H0 W0 c k σ W β H σ' W' ∧ RelC H W' p' a ∧ K p' σ' := by
  unfold frzAK at h
  split at h
  · rename_i cs
    have hx : ∃ as, a = .agg as ∧ All2 (RelV H W β) cs as := by
      cases hr with
      | clo h => cases h with
        | agg h => exact ⟨_, rfl, RelVs.clo h⟩
      | agg h => exact ⟨_, rfl, h⟩
    obtain ⟨as, rfl, hr2⟩ := hx
    obtain ⟨cs', σ', W', f, r, h⟩ := frzsK_ok h I hr2
    exact ⟨.agg cs', σ', W', f, .agg r, h⟩
  · rename_i f cs
    have hx : ∃ as, a = .fn f [] as ∧ All2 (RelV H W β) cs as := by
      cases hr with
      | clo h => cases h with
        | fnc _ h => exact ⟨_, rfl, RelVs.clo h⟩
      | fnc _ h => exact ⟨_, rfl, h⟩
    obtain ⟨as, rfl, hr2⟩ := hx
    obtain ⟨cs', σ', W', f', r, h⟩ := frzsK_ok h I hr2
    exact ⟨.fnc f cs', σ', W', f', .fnc f r, h⟩
  · exact frzK_ok h I hr
theorem frzAsK_ok {H0 H : Heap} {W0 : Nat → Prop} {c k : Nat} {β : List Nat} : ∀ {ps : List PV} {σ : List StB} {W : Nat → Prop} {as : List AV} {K : List PV → List StB → Prop}, frzAsK σ ps K → Sto H0 W0 c σ k W β H → All2 (RelV H W β) ps as →
    ∃ ps' σ' W', FrzO H0 W0 c k σ W β H σ' W' ∧ All2 (RelC H W') ps' as ∧ K ps' σ'
  | [], σ, W, as, K, h, I, hr => by
    cases hr
    exact ⟨[], σ, W, ⟨Ext.refl _ _ _, I, rfl, fun _ => rfl, fun _ => rfl⟩, .nil, h⟩
  | p :: ps, σ, W, as, K, h, I, hr => by
    cases hr with
    | cons h1 h2 =>
      obtain ⟨p', σ1, W1, f1, r1, h3⟩ := frzAK_ok (show frzAK σ p fun p' σ' => frzAsK σ' ps fun ps' σ'' => K (p' :: ps') σ'' from h) I h1
      obtain ⟨ps', σ2, W2, f2, r2, h4⟩ := frzAsK_ok h3 f1.2.1 (RelVs.ext f1.1 h2)
      exact ⟨p' :: ps', σ2, W2, f1.trans f2, .cons (r1.ext f2.1) r2, h4⟩
end Go.PI
