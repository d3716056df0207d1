/- Own work of the verifier: HoJ HoK. -/
import Derived.Test.YtfebkjgioddgaaaHpAZ
set_option linter.all false
set_option exponentiation.threshold 3000
set_option linter.deprecated false
/- A TILING is opened; answers. -/
open Go.Proofs
namespace Go.PI
open IM
set_option maxRecDepth 10000
set_option maxHeartbeats 4000000
variable (S : FuncId → Option (List AV → Heap → Option (AV × Heap)))
/-- the cells of the tiling of an origami -/
noncomputable def tilO (n : Nat) (f f' g g' : Nat → Nat) : List PV :=
  [pn (cycs n (cmf f f' g g')).length, pn n, .lst (2 * n) (FC (edg n (cmf f f' g g') f f' g g') (2 * n)), pIs (PL n f), pIs (PL n g), pIs (PL n f'), pIs (PL n g'), pM (cycs n (cmf f f' g g'))]
theorem fn50 : ctx.fn 50 = some c50 := by kernel_rfl
theorem open_ct (hS : OldO S) {r u : List Int} {n : Nat} {f f' g g' : Nat → Nat} (ho : IsO r u n f f' g g') :
    Ct (ctx.plus S) 50 [pO r u] 10200 fun v => v = .tup [.lptr (tilO n f f' g g'), pn 0] := by
  have hn := ho.le
  have hv := pvertices_ct S hS ho
  have hc := fun v0 v1 e => cells_cb S hS ho (v0 := v0) (v1 := v1) (e := e)
  obtain ⟨h0, -, rfl, rfl, pr, pu⟩ := id ho
  obtain ⟨cc, hcc⟩ : ∃ cc, cc = cycs n (cmf f f' g g') := ⟨_, rfl⟩
  unfold tilO
  simp only [← hcc] at hv hc ⊢
  refine ct_of (hS 50 (by decide)) fn50 ?_
  refine ⟨by omega, ?_⟩
  refine ⟨_, rfl, ?_⟩
  refine callq rfl hv (by omega) ?_
  rintro _ rfl
  refine ⟨fun h => absurd rfl h, fun _ => ?_⟩
  refine ⟨by kernel_rfl, ?_⟩
  refine ⟨_, rfl, rfl, ?_⟩
  refine ⟨_, rfl, rfl, ?_⟩
  refine ⟨_, rfl, rfl, ?_⟩
  refine callq rfl (hinverse_ct S hS pr (by omega)) (by omega) ?_
  rintro _ rfl
  refine ⟨_, rfl, rfl, ?_⟩
  refine callq rfl (hinverse_ct S hS pu (by omega)) (by omega) ?_
  rintro _ rfl
  refine partc rfl ⟨_, rfl, ?_⟩
  refine ⟨by omega, ?_⟩
  refine calb (lend_own rfl) rfl (by simp) (hc _ _ _) (by omega) ?_
  rintro _ rfl
  refine ⟨_, _, rfl, ⟨rfl, Nat.le_of_ble_eq_true rfl, rfl⟩, _, rfl, _, rfl, ?_⟩
  exact ⟨⟨[], 86, _, rfl, Nat.zero_le _, rfl⟩⟩
theorem open_bad (hS : OldO S) {r u : List Int} (l1 : r.length ≤ 1000000) (l2 : u.length ≤ 1000000) (hb : chkO r u ≠ 0) :
    Ct (ctx.plus S) 50 [pO r u] 10200 fun v => v = .tup [.nilp, pn (chkO r u)] := by
  refine ct_of (hS 50 (by decide)) fn50 ?_
  refine ⟨by omega, ?_⟩
  refine ⟨_, rfl, ?_⟩
  refine callq rfl (pvertices_bad S hS l1 l2 hb) (by omega) ?_
  rintro _ rfl
  refine ⟨fun _ => ?_, fun h => absurd h hb⟩
  exact endsq rfl rfl
open Classical in
/-- the error of a chain -/
noncomputable def chkC (n : Nat) (c : List Int) : Int := if c.length ≠ 2 * n then 10 else if Wi c 1000000 then 0 else 2
theorem chkC10 {n : Nat} {c : List Int} (h : c.length ≠ 2 * n) : chkC n c = 10 := by unfold chkC; rw [if_pos h]
theorem chkC0 {n : Nat} {c : List Int} (h : c.length = 2 * n) (h2 : Wi c 1000000) : chkC n c = 0 := by unfold chkC; rw [if_neg (fun e => e h), if_pos h2]
theorem chkC2 {n : Nat} {c : List Int} (h : c.length = 2 * n) (h2 : ¬ Wi c 1000000) : chkC n c = 2 := by unfold chkC; rw [if_neg (fun e => e h), if_neg h2]
theorem chkC_ok {n : Nat} {c : List Int} (h : chkC n c = 0) : c.length = 2 * n ∧ Wi c 1000000 := by
  by_cases h1 : c.length = 2 * n
  · by_cases h2 : Wi c 1000000
    · exact ⟨h1, h2⟩
    · rw [chkC2 h1 h2] at h; omega
  · rw [chkC10 h1] at h; omega
theorem fn83 : ctx.fn 83 = some c83 := by kernel_rfl
theorem checkChain_ct (hS : OldO S) {v0 v1 : PV} {n : Nat} {E rest : List PV} {c : List Int} (hn : n ≤ 1000000) (hc : c.length ≤ 1000000) : Ct (ctx.plus S) 83 [.lptr (v0 :: v1 :: .lst (2 * n) E :: rest), pIs c] 1 fun w => w = pn (chkC n c) := by
  refine ct_of (hS 83 (by decide)) fn83 ?_
  refine ⟨(by show 2 ≤ rest.length + 3; omega), ?_⟩
  refine ⟨_, rfl, ?_⟩
  refine ⟨fun h1 => ?_, fun h1 => ?_⟩
  · exact endq rfl (by rw [chkC10 (by omega)])
  · refine callq rfl (areWithin_ct S hS hc (by omega)) (by omega) ?_
    rintro _ (⟨hw, rfl⟩ | ⟨hw, rfl⟩)
    · exact endq rfl (by rw [chkC0 (by omega) hw])
    · exact endq rfl (by rw [chkC2 (by omega) hw])
theorem fn46 : ctx.fn 46 = some c46 := by kernel_rfl
theorem isChain_ct (hS : OldO S) {c : List Int} : Ct (ctx.plus S) 46 [pIs c] 1 fun w => w = .fnc 82 [.lptr [pIs c]] := by
  refine ct_of (hS 46 (by decide)) fn46 ?_
  refine ⟨by omega, ?_⟩
  exact endf (fz_fnc1 rfl) rfl
theorem fn82 : ctx.fn 82 = some c82 := by kernel_rfl
theorem isChain1_ct (hS : OldO S) {v0 v1 : PV} {n : Nat} {E rest : List PV} {c : List Int} (hn : n ≤ 1000000) (hc : c.length ≤ 1000000) : Ct (ctx.plus S) 82 [.lptr (v0 :: v1 :: .lst (2 * n) E :: rest), .lptr [pIs c]] 1 fun w => w = pn (chkC n c) := by
  refine ct_of (hS 82 (by decide)) fn82 ?_
  refine ⟨by kernel_rfl, ?_⟩
  refine ⟨Nat.zero_le _, ?_⟩
  refine ⟨_, rfl, rfl, ?_⟩
  refine callq rfl (checkChain_ct S hS hn hc) (by omega) ?_
  rintro _ rfl
  exact endq rfl rfl
/-! ### Answers -/
def pFs (L : List (Nat × List PV)) : PV := .lst L.length (L.map fun p => .fnc p.1 p.2)
/-- the first error -/
def fstE : List Int → Int
  | [] => 0
  | e :: es => if e = 0 then fstE es else e
theorem fstE_bad : ∀ {es : List Int} {i : Nat} {e : Int}, (∀ x ∈ es.take i, x = 0) → es[i]? = some e → e ≠ 0 → fstE es = e
  | [], _, _, _, h, _ => by simp at h
  | x :: es, 0, e, _, h, h0 => by
    simp at h; subst h
    unfold fstE; rw [if_neg h0]
  | x :: es, i + 1, e, hz, h, h0 => by
    have := hz x (by simp)
    unfold fstE; rw [if_pos this]
    exact fstE_bad (i := i) (fun y hy => hz y (by simp [hy])) (by simpa using h) h0
theorem fstE_ok : ∀ {es : List Int}, (∀ x ∈ es, x = 0) → fstE es = 0
  | [], _ => rfl
  | x :: es, h => by
    unfold fstE; rw [if_pos (h x (by simp))]
    exact fstE_ok fun y hy => h y (by simp [hy])
theorem fn42 : ctx.fn 42 = some c42 := by kernel_rfl
theorem answer_ct (hS : OldO S) {r u : List Int} {n : Nat} {f f' g g' : Nat → Nat} (ho : IsO r u n f f' g g') {L : List (Nat × List PV)} {es : List Int} (hl : es.length = L.length) (hL : L.length ≤ 1000) {dk d q : Nat} {cs : List PV} {Q : PV → Prop} (hcl : ∀ p ∈ L, clos p.2 = true)
    (hk : ∀ (i : Nat) (p : Nat × List PV) (e : Int), L[i]? = some p → es[i]? = some e → Ct (ctx.plus S) p.1 (.lptr (tilO n f f' g g') :: p.2) dk fun v => v = pn e) (hcs : clos cs = true) (hg : fstE es = 0 → Ct (ctx.plus S) q (.lptr (tilO n f f' g g') :: cs) d Q) (hq : ∀ v, Q v → cloA v = true) :
    Ct (ctx.plus S) 42 [pO r u, .fnc q cs, pFs L] (10300 + L.length * dk + d) fun v => (fstE es ≠ 0 ∧ v = .tup [.lst 0 [], pn (fstE es)]) ∨ (fstE es = 0 ∧ ∃ w, Q w ∧ v = .tup [w, pn 0]) := by
  refine ct_of (hS 42 (by decide)) fn42 ?_
  refine ⟨by omega, ?_⟩
  refine ⟨_, rfl, ?_⟩
  refine callq rfl (open_ct S hS ho) (by omega) ?_
  rintro _ rfl
  refine ⟨fun h => absurd rfl h, fun _ => ?_⟩
  refine ⟨fun m s => ∃ (i b : Nat) (T : List PV), s = ⟨T, [.live 24 [pIs r, pIs u]], b⟩ ∧ Gt T 40 [(1, .fnc q cs), (8, .nils), (9, .lptr (tilO n f f' g g')), (23, pFs L), (24, pn L.length), (25, pn i)] ∧ m = L.length - i ∧ i ≤ L.length ∧ b ≤ 10201 + i * dk ∧ Hid (∀ x ∈ es.take i, x = 0), ⟨_, ci ⟨0, _, _, rfl, ⟨rfl, rfl, rfl, rfl, rfl, rfl, rfl, trivial⟩, rfl, Nat.zero_le _, by omega, ⟨fun x hx => by simp at hx⟩⟩⟩, ?_⟩
  rintro _ s ⟨i, b, T, rfl, hT, rfl, hi, hb, hz⟩
  obtain ⟨J, rfl⟩ := gt_open hT
  clear hT
  refine ⟨fun hlt => ?_, fun hge => ?_⟩
  · obtain ⟨p, hp⟩ : ∃ p, L[i]? = some p := ⟨L[i]'(by omega), List.getElem?_eq_getElem _⟩
    obtain ⟨e, he⟩ : ∃ e, es[i]? = some e := ⟨es[i]'(by omega), List.getElem?_eq_getElem _⟩
    have hm1 : i * dk + dk ≤ L.length * dk := by rw [← Nat.succ_mul]; exact Nat.mul_le_mul_right _ (by omega)
    refine ⟨⟨⟨by omega, by omega⟩, len_map_le (by omega)⟩, ?_⟩
    refine ⟨_, ld (at_map hp) (by show _ * 1 = i; omega), ?_⟩
    refine callq (ps := .lptr (tilO n f f' g g') :: p.2) (cloAs_cons rfl (hcl p (List.mem_of_getElem? hp))) (hk i p e hp he) (by omega) ?_
    rintro _ rfl
    refine ⟨fun h0 => ?_, fun h0 => ?_⟩
    · exact ⟨⟨[], .inl (by rw [fstE_bad hz.h he h0]; exact ⟨h0, rfl⟩)⟩⟩
    · refine ⟨⟨by omega, by omega⟩, ?_⟩
      exact ⟨_, by omega, ci ⟨i + 1, _, _, rfl, ⟨rfl, rfl, rfl, rfl, rfl, rfl, rfl, trivial⟩, rfl, by omega, by rw [Nat.succ_mul]; omega, ⟨fun x hx => by
        rw [take_snoc he] at hx
        rcases List.mem_append.1 hx with hx | hx
        · exact hz.h x hx
        · rw [List.mem_singleton.1 hx]; exact h0⟩⟩⟩
  · have hf0 : fstE es = 0 := fstE_ok fun x hx => hz.h x (by rw [List.take_of_length_le (by omega)]; exact hx)
    have hm2 : i * dk ≤ L.length * dk := Nat.mul_le_mul_right _ hi
    refine callq (ps := .lptr (tilO n f f' g g') :: cs) (cloAs_cons rfl hcs) (hg hf0) (by omega) ?_
    intro w hw
    exact endsq (by simp only [cloAs, hq w hw]; rfl) (.inr ⟨hf0, w, hw, rfl⟩)
theorem answer_fn (hS : OldO S) {r u : List Int} {n : Nat} {f f' g g' : Nat → Nat} (ho : IsO r u n f f' g g') {d q : Nat} {Q : PV → Prop} (hg : Ct (ctx.plus S) q [.lptr (tilO n f f' g g')] d Q) (hq : ∀ v, Q v → cloA v = true) :
    Ct (ctx.plus S) 42 [pO r u, .fn q, .lst 0 []] (10300 + d) fun v => ∃ w, Q w ∧ v = .tup [w, pn 0] := by
  refine ct_of (hS 42 (by decide)) fn42 ?_
  refine ⟨by omega, ?_⟩
  refine ⟨_, rfl, ?_⟩
  refine callq rfl (open_ct S hS ho) (by omega) ?_
  rintro _ rfl
  refine ⟨fun h => absurd rfl h, fun _ => ?_⟩
  refine ⟨fun m s => m = 0 ∧ ∃ (T : List PV), s = ⟨T, [.live 24 [pIs r, pIs u]], 10201⟩ ∧ Gt T 40 [(1, .fn q), (9, .lptr (tilO n f f' g g')), (24, pn 0), (25, pn 0)], ⟨_, ci ⟨rfl, _, rfl, ⟨rfl, rfl, rfl, rfl, rfl, trivial⟩⟩⟩, ?_⟩
  rintro _ s ⟨rfl, T, rfl, hT⟩
  obtain ⟨J, rfl⟩ := gt_open hT
  clear hT
  refine ⟨fun hlt => ?_, fun hge => ?_⟩
  · exact absurd hlt (by decide)
  · refine callq rfl hg (by omega) ?_
    intro w hw
    exact endsq (by simp only [cloAs, hq w hw]; rfl) ⟨w, hw, rfl⟩
theorem answer_bad (hS : OldO S) {r u : List Int} (l1 : r.length ≤ 1000000) (l2 : u.length ≤ 1000000) (hb : chkO r u ≠ 0) {F ks : PV} :
    Ct (ctx.plus S) 42 [pO r u, F, ks] 10300 fun v => v = .tup [.lst 0 [], pn (chkO r u)] := by
  refine ct_of (hS 42 (by decide)) fn42 ?_
  refine ⟨by omega, ?_⟩
  refine ⟨_, rfl, ?_⟩
  refine callq rfl (open_bad S hS l1 l2 hb) (by omega) ?_
  rintro _ rfl
  refine ⟨fun _ => ?_, fun h => absurd h hb⟩
  exact ⟨⟨[], rfl⟩⟩
end Go.PI
/- BOUNDARIES, of the program. -/
open Go.Proofs
namespace Go.PI
open IM
set_option maxRecDepth 10000
set_option maxHeartbeats 4000000
variable (S : FuncId → Option (List AV → Heap → Option (AV × Heap)))
section
variable (n : Nat) (c f f' g g' : Nat → Nat)
noncomputable def bgn (q : Nat) : Nat := if q < n then vn c q else vn c (q - n)
noncomputable def enn (q : Nat) : Nat := if q < n then vn c (f q) else vn c (g (q - n))
def lft (q : Nat) : Nat := if q < n then q else f' (q - n)
def rgt (q : Nat) : Nat := if q < n then g' q else q - n
theorem edg_eq (q : Nat) : edg n c f f' g g' q = [pn (bgn n c q), pn (enn n c f g q), pn (lft n f' q), pn (rgt n g' q)] := by
  unfold edg bgn enn lft rgt
  split <;> rfl
/-- what edge q with the number C q gives vertex w -/
noncomputable def bterm (C : Nat → Int) (w q : Nat) : Int := (if w = enn n c f g q then C q else 0) - (if w = bgn n c q then C q else 0)
end
variable {n : Nat} {c c' f f' g g' : Nat → Nat}
theorem bgn_lt (h : IsP n c c') {q : Nat} (hq : q < 2 * n) : bgn n c q < (cycs n c).length := by
  unfold bgn
  split
  · exact vn_lt h (by assumption)
  · exact vn_lt h (by omega)
theorem enn_lt (h : IsP n c c') (hf : IsP n f f') (hg : IsP n g g') {q : Nat} (hq : q < 2 * n) : enn n c f g q < (cycs n c).length := by
  unfold enn
  split
  · exact vn_lt h (hf.lt q (by assumption))
  · exact vn_lt h (hg.lt _ (by omega))
theorem bterm_le {C : Nat → Int} {w q : Nat} (hC : -1000000 ≤ C q ∧ C q ≤ 1000000) : -1000000 ≤ bterm n c f g C w q ∧ bterm n c f g C w q ≤ 1000000 := by
  unfold bterm
  split <;> split <;> omega
theorem bsum_le {C : Nat → Int} {w k : Nat} (hC : ∀ i, i < k → -1000000 ≤ C i ∧ C i ≤ 1000000) : -(k * 1000000) ≤ sumN (bterm n c f g C w) k ∧ sumN (bterm n c f g C w) k ≤ k * 1000000 := sumN_le fun i hi => bterm_le (hC i hi)
theorem wi_FL {m : Nat} {C : Nat → Int} {L : Int} (h : Wi (FL m C) L) : ∀ i, i < m → -L ≤ C i ∧ C i ≤ L := fun i hi => h _ (List.mem_of_getElem? (FL_get hi))
theorem fn45 : ctx.fn 45 = some c45 := by kernel_rfl
theorem boundary_ct (hS : OldO S) (hc : IsP n c c') (hf : IsP n f f') (hg : IsP n g g') (hn : n ≤ 60) {rest : List PV} {C : Nat → Int} (hC : Wi (FL (2 * n) C) 1000000) :
    Ct (ctx.plus S) 45 [.lptr (pn (cycs n c).length :: pn n :: .lst (2 * n) (FC (edg n c f f' g g') (2 * n)) :: rest), pIs (FL (2 * n) C)] 200 fun w => w = pIs (FL (cycs n c).length fun w => sumN (bterm n c f g C w) (2 * n)) := by
  have hCi := wi_FL hC
  have hV : (cycs n c).length ≤ n := cycs_len (Nat.le_refl n)
  have hbg := fun q (h : q < 2 * n) => bgn_lt hc h
  have hen := fun q (h : q < 2 * n) => enn_lt hc hf hg h
  obtain ⟨V, hVe⟩ : ∃ V, V = (cycs n c).length := ⟨_, rfl⟩
  rw [← hVe] at hV hbg hen ⊢
  have hFl : (FL (2 * n) C).length = 2 * n := FL_len
  have hEl : (FC (edg n c f f' g g') (2 * n)).length = 4 * (2 * n) := FC_len edg_len
  refine ct_of (hS 45 (by decide)) fn45 ?_
  refine ⟨Nat.zero_le _, ?_⟩
  refine ⟨_, rfl, ?_⟩
  refine ⟨by omega, ⟨by omega, by omega, by omega⟩, _, FL_rep, ?_⟩
  refine ⟨(by show 2 ≤ rest.length + 3; omega), ?_⟩
  refine ⟨_, rfl, ?_⟩
  refine ⟨fun m s => ∃ (k : Nat) (σ : List StB) (T : List PV), s = ⟨T, σ, 1 + k⟩ ∧ Gt T 47 [(1, pIs (FL (2 * n) C)), (5, .own 0 0 V V 1), (16, .lst (2 * n) (FC (edg n c f f' g g') (2 * n))), (17, pn (2 * n : Nat)), (18, pn k)] ∧ m = 2 * n - k ∧ k ≤ 2 * n ∧ Hid (σ[0]? = some (.live 3 ((FL V fun w => sumN (bterm n c f g C w) k).map pn))), ⟨_, ci ⟨0, _, _, rfl, ⟨rfl, rfl, rfl, rfl, rfl, rfl, trivial⟩, rfl, Nat.zero_le _, ⟨rfl⟩⟩⟩, ?_⟩
  rintro _ s ⟨k, σ, T, rfl, hT, rfl, hk, h0⟩
  obtain ⟨J, rfl⟩ := gt_open hT
  clear hT
  have h0 := h0.h
  refine ⟨fun hlt => ?_, fun hge => ?_⟩
  · have hkl : k < 2 * n := by omega
    have hb := hbg k hkl
    have he := hen k hkl
    have hCk := hCi k hkl
    obtain ⟨b, hbe⟩ : ∃ b, b = bgn n c k := ⟨_, rfl⟩
    obtain ⟨e, hee⟩ : ∃ e, e = enn n c f g k := ⟨_, rfl⟩
    rw [← hbe] at hb
    rw [← hee] at he
    have hat : ∀ q, q = 4 * k → partP t117 ((FC (edg n c f f' g g') (2 * n)).drop q) 0 = some (.agg [pn b, pn e, pn (lft n f' k), pn (rgt n g' k)]) := fun q hq => by
      show (if 0 + 4 ≤ ((FC (edg n c f f' g g') (2 * n)).drop q).length then some (PV.agg ((((FC (edg n c f f' g g') (2 * n)).drop q).drop 0).take 4)) else none) = _
      rw [if_pos (by rw [List.length_drop, hEl]; omega), List.drop_zero, FC_at edg_len hkl hq, edg_eq, ← hbe, ← hee]
    refine ⟨⟨⟨by omega, by omega⟩, by rw [hEl]; show k * 4 ≤ _; omega⟩, ?_⟩
    refine ⟨_, hat _ (by show _ * 4 = _; omega), ?_⟩
    refine ⟨by omega, ?_⟩
    refine ⟨_, _, push_get, ⟨rfl, by decide, rfl⟩, _, rfl, _, push_set, ?_⟩
    refine ⟨by kernel_rfl, ?_⟩
    have h1 : ∀ x, (σ ++ [x])[0]? = some (StB.live 3 ((FL V fun w => sumN (bterm n c f g C w) k).map pn)) := fun x => push_old h0
    have hl0 := (List.getElem?_eq_some_iff.1 h0).1
    have hsb := fun w => bsum_le (n := n) (c := c) (f := f) (g := g) (C := C) (w := w) (k := k) fun i hi => hCi i (by omega)
    refine ⟨_, load_k rfl rfl push_cont (show [pn b, pn e, pn (lft n f' k), pn (rgt n g' k)][1]? = some (pn e) from rfl) rfl, rfl, ?_⟩
    refine ⟨⟨by omega, by omega⟩, ?_⟩
    refine ⟨_, load_k rfl rfl (contOf_live (h1 _)) (at_map (FL_get he)) (by show 0 + e * 1 = e; omega), rfl, ?_⟩
    refine ⟨⟨⟨by omega, by omega⟩, len_map_le (by omega)⟩, ?_⟩
    refine ⟨_, ld (at_map (FL_get hkl)) (by show _ * 1 = k; omega), rfl, ?_⟩
    have s1 := hsb e
    refine ⟨⟨by omega, by omega⟩, ?_⟩
    refine ⟨⟨by omega, by omega⟩, ?_⟩
    refine ⟨_, _, h1 _, ⟨rfl, by rw [List.length_map, FL_len]; show 0 + e * 1 + 1 ≤ _; omega, rfl⟩, _, FL_put (i := e) (by show 0 + e * 1 = e; omega) he, _, rfl, ?_⟩
    refine ⟨by kernel_rfl, ?_⟩
    have h2 : ∀ x y, ((σ ++ [x]).set 0 y)[0]? = some y := fun x y => List.getElem?_set_self (by rw [List.length_append]; omega)
    have h3 : ∀ x y, contOf ((σ ++ [StB.live 117 x]).set 0 y) σ.length = some (117, x) := fun x y => by
      unfold contOf
      rw [List.getElem?_set_ne (by omega), push_get]
      rfl
    refine ⟨_, load_k rfl rfl (h3 _ _) (show [pn b, pn e, pn (lft n f' k), pn (rgt n g' k)][0]? = some (pn b) from rfl) rfl, rfl, ?_⟩
    refine ⟨⟨by omega, by omega⟩, ?_⟩
    refine ⟨_, load_k rfl rfl (contOf_live (h2 _ _)) (at_map (FL_get hb)) (by show 0 + b * 1 = b; omega), rfl, ?_⟩
    refine ⟨⟨⟨by omega, by omega⟩, len_map_le (by omega)⟩, ?_⟩
    refine ⟨_, ld (at_map (FL_get hkl)) (by show _ * 1 = k; omega), rfl, ?_⟩
    have s2 := hsb b
    refine ⟨by split <;> exact ⟨by omega, by omega⟩, ?_⟩
    refine ⟨⟨by omega, by omega⟩, ?_⟩
    refine ⟨_, _, h2 _ _, ⟨rfl, by rw [List.length_map, FL_len]; show 0 + b * 1 + 1 ≤ _; omega, rfl⟩, _, FL_put (i := b) (by show 0 + b * 1 = b; omega) hb, _, rfl, ?_⟩
    refine ⟨⟨by omega, by omega⟩, ?_⟩
    refine ⟨_, by omega, ci ⟨k + 1, _, _, rfl, ⟨rfl, rfl, rfl, rfl, rfl, rfl, trivial⟩, rfl, by omega, ⟨?_⟩⟩⟩
    rw [List.getElem?_set_self (by rw [List.length_set, List.length_append]; omega)]
    congr 3
    refine FL_eq fun w hw => ?_
    show _ = sumN _ k + bterm n c f g C w k
    unfold bterm
    rw [← hbe, ← hee]
    by_cases q1 : w = b
    · rw [if_pos q1, if_pos q1]
      by_cases q3 : b = e
      · rw [if_pos q3, if_pos (q1.trans q3), q1, ← q3]; omega
      · rw [if_neg q3, if_neg (fun h => q3 (q1.symm.trans h)), q1]; omega
    · rw [if_neg q1, if_neg q1]
      by_cases q2 : w = e
      · subst q2
        rw [if_pos rfl, if_pos rfl]; omega
      · rw [if_neg q2, if_neg q2]; omega
  · have hke : k = 2 * n := by omega
    subst hke
    refine endf (fz_ints (contOf_live h0) FL_len) rfl
theorem fn44 : ctx.fn 44 = some c44 := by kernel_rfl
theorem boundary1_ct (hS : OldO S) {r u : List Int} (ho : IsO r u n f f' g g') {C : Nat → Int} (hC : Wi (FL (2 * n) C) 1000000) :
    Ct (ctx.plus S) 44 [.lptr (tilO n f f' g g'), .lptr [pIs (FL (2 * n) C)]] 200 fun w => w = pIs (FL (cycs n (cmf f f' g g')).length fun w => sumN (bterm n (cmf f f' g g') f g C w) (2 * n)) := by
  refine ct_of (hS 44 (by decide)) fn44 ?_
  refine ⟨by kernel_rfl, ?_⟩
  refine ⟨Nat.zero_le _, ?_⟩
  refine ⟨_, rfl, rfl, ?_⟩
  refine callq rfl (boundary_ct S hS ho.cm ho.pr ho.pu ho.le hC) (by omega) ?_
  rintro _ rfl
  exact endq rfl rfl
/-! ### The functions that are asked -/
theorem fn11 : ctx.fn 11 = some c11 := by kernel_rfl
theorem pVertices_ct (hS : OldO S) {r u : List Int} (ho : IsO r u n f f' g g') : Ct (ctx.plus S) 11 [pO r u] 11000 fun w => w = .tup [pIs (PL n (vn (cmf f f' g g'))), pn 0] := by
  refine ct_of (hS 11 (by decide)) fn11 ?_
  refine ⟨by omega, ?_⟩
  refine ⟨_, rfl, ?_⟩
  refine cal3 (fun K h => frzAK_clo rfl h) (fun K h => frzAK_clo rfl h) fzN (answer_fn S hS ho (d := 1) (Q := fun w => w = pIs (PL n (vn (cmf f f' g g')))) (Cb.lp (vertexNumbers_cb S hS ho.cm ho.le PL_len)) fun v e => by rw [e]; rfl) (by omega) ?_
  rintro _ ⟨w, rfl, rfl⟩
  exact endsq rfl rfl
theorem pVertices_bad (hS : OldO S) {r u : List Int} (l1 : r.length ≤ 1000000) (l2 : u.length ≤ 1000000) (hb : chkO r u ≠ 0) : Ct (ctx.plus S) 11 [pO r u] 11000 fun w => w = .tup [.lst 0 [], pn (chkO r u)] := by
  refine ct_of (hS 11 (by decide)) fn11 ?_
  refine ⟨by omega, ?_⟩
  refine ⟨_, rfl, ?_⟩
  refine cal3 (fun K h => frzAK_clo rfl h) (fun K h => frzAK_clo rfl h) fzN (answer_bad S hS l1 l2 hb) (by omega) ?_
  rintro _ rfl
  exact endsq rfl rfl
theorem fz_fns {i h : Nat} {ty : TypeId} {hc : List PV} {σ : List StB} (hg : contOf σ i = some (ty, [.fnc h hc])) : Fz (.own i 0 1 1 1) σ (pFs [(h, hc)]) (σ.set i (.frz ty [.fnc h hc])) := fz_own hg (Nat.le_refl _) (Nat.le_refl _) rfl
theorem fn12 : ctx.fn 12 = some c12 := by kernel_rfl
theorem pBoundary_ct (hS : OldO S) {r u cs : List Int} (ho : IsO r u n f f' g g') (hl : cs.length ≤ 1000000) : Ct (ctx.plus S) 12 [pO r u, pIs cs] 11000 fun w => (chkC n cs ≠ 0 ∧ w = .tup [.lst 0 [], pn (chkC n cs)]) ∨ (chkC n cs = 0 ∧ ∃ C, cs = FL (2 * n) C ∧ Wi (FL (2 * n) C) 1000000 ∧ w = .tup [pIs (FL (cycs n (cmf f f' g g')).length fun w => sumN (bterm n (cmf f f' g g') f g C w) (2 * n)), pn 0]) := by
  have hn := ho.le
  refine ct_of (hS 12 (by decide)) fn12 ?_
  refine ⟨by omega, ?_⟩
  refine ⟨by omega, ?_⟩
  refine ⟨by kernel_rfl, ?_⟩
  refine ⟨_, rfl, rfl, ?_⟩
  refine ⟨_, rfl, rfl, ?_⟩
  refine callq rfl (isChain_ct S hS) (by omega) ?_
  rintro _ rfl
  refine ⟨by omega, partc rfl ⟨_, rfl, ?_⟩⟩
  have hans := answer_ct S hS ho (L := [(82, [.lptr [pIs cs]])]) (es := [chkC n cs]) rfl (by simp) (dk := 1) (d := 200) (q := 44) (cs := [.lptr [pIs cs]]) (Q := fun w => chkC n cs = 0 ∧ ∃ C, cs = FL (2 * n) C ∧ Wi (FL (2 * n) C) 1000000 ∧ w = pIs (FL (cycs n (cmf f f' g g')).length fun w => sumN (bterm n (cmf f f' g g') f g C w) (2 * n))) (fun p hp => by rw [List.mem_singleton.1 hp]; rfl)
    (fun i p e h1 h2 => by
      cases i with
      | zero => simp at h1 h2; subst h1; subst h2; exact isChain1_ct S hS (by omega) hl
      | succ i => simp at h1) rfl (fun h0 => by
      have h0 : chkC n cs = 0 := by
        simp only [fstE] at h0
        split at h0
        · assumption
        · exact h0
      obtain ⟨h1, h2⟩ := chkC_ok h0
      rw [FL_of h1] at h2 ⊢
      refine (boundary1_ct S hS ho h2).post fun w hw => ⟨by rw [← FL_of h1]; exact h0, _, rfl, h2, hw⟩) (fun v hv => by obtain ⟨-, C, -, -, rfl⟩ := hv; rfl)
  refine cal3 (fun K h => frzAK_clo rfl h) (fz_fnc1 rfl) (fz_fns rfl) hans (by simp) ?_
  have hfe : fstE [chkC n cs] = chkC n cs := by
    simp only [fstE]
    split
    · exact Eq.symm (by assumption)
    · rfl
  rw [hfe]
  rintro _ (⟨h0, rfl⟩ | ⟨h0, w, ⟨h1, C, h2, h3, rfl⟩, rfl⟩)
  · exact endsq rfl (.inl ⟨h0, rfl⟩)
  · exact endsq rfl (.inr ⟨h0, C, h2, h3, rfl⟩)
theorem pBoundary_bad (hS : OldO S) {r u cs : List Int} (l1 : r.length ≤ 1000000) (l2 : u.length ≤ 1000000) (hb : chkO r u ≠ 0) : Ct (ctx.plus S) 12 [pO r u, pIs cs] 11000 fun w => w = .tup [.lst 0 [], pn (chkO r u)] := by
  refine ct_of (hS 12 (by decide)) fn12 ?_
  refine ⟨by omega, ?_⟩
  refine ⟨by omega, ?_⟩
  refine ⟨by kernel_rfl, ?_⟩
  refine ⟨_, rfl, rfl, ?_⟩
  refine ⟨_, rfl, rfl, ?_⟩
  refine callq rfl (isChain_ct S hS) (by omega) ?_
  rintro _ rfl
  refine ⟨by omega, partc rfl ⟨_, rfl, ?_⟩⟩
  refine cal3 (fun K h => frzAK_clo rfl h) (fz_fnc1 rfl) (fz_fns rfl) (answer_bad S hS l1 l2 hb) (by omega) ?_
  rintro _ rfl
  exact endsq rfl rfl
end Go.PI
