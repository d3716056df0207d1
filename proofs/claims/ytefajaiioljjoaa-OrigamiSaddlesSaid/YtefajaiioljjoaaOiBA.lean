/- Own work of the verifier: OgH OgI OgJ. -/
import Derived.Test.YtefajaiioljjoaaOiAY
set_option linter.all false
set_option exponentiation.threshold 3000
set_option linter.deprecated false
/- COVERINGS: what is asked of a list, of the program and of the reference. -/
open Go.Proofs
namespace Go.PI
open IM
set_option maxRecDepth 10000
set_option maxHeartbeats 4000000
variable (S : FuncId → Option (List AV → Heap → Option (AV × Heap)))
theorem fn121 : ctx.fn 121 = some c121 := by kernel_rfl
theorem neighbours_ct (hS : OldO S) {r u : List Int} {n x : Nat} {f f' g g' : Nat → Nat} (h : IsO r u n f f' g g') (hx : x < n) : Ct (ctx.plus S) 121 [pO r u, pn x] 2 fun v => v = .agg [pn (f x), pn (g x)] := by
  obtain ⟨h0, hn, rfl, rfl, pr, pu⟩ := h
  have l1 : (PL n f).length = n := PL_len
  have l2 : (PL n g).length = n := PL_len
  refine ct_of (hS 121 (by decide)) fn121 ?_
  refine ⟨by omega, by omega, ?_⟩
  refine ⟨by kernel_rfl, ?_⟩
  refine ⟨_, rfl, rfl, ?_⟩
  refine ⟨⟨⟨by omega, by omega⟩, len_map_le (by omega)⟩, ?_⟩
  refine ⟨_, ld (at_map (PL_get hx)) (by show _ * 1 = x; omega), rfl, ?_⟩
  refine ⟨_, rfl, rfl, ?_⟩
  refine ⟨⟨⟨by omega, by omega⟩, len_map_le (by omega)⟩, ?_⟩
  refine ⟨_, ld (at_map (PL_get hx)) (by show _ * 1 = x; omega), rfl, ?_⟩
  refine partc rfl ⟨_, rfl, ?_⟩
  refine ⟨_, _, rfl, ⟨rfl, Nat.le_refl 2, rfl⟩, _, rfl, _, rfl, ?_⟩
  exact ⟨_, rfl, endq rfl rfl⟩
theorem fn120 : ctx.fn 120 = some c120 := by kernel_rfl
theorem notSquare_ct (hS : OldO S) {r u : List Int} {x : Int} (hl : r.length ≤ 1000000) : Ct (ctx.plus S) 120 [pn x, .lptr [pIs r, pIs u]] 0 fun v => v = .bool (!decide (0 ≤ x ∧ x < r.length)) := by
  refine ct_of (hS 120 (by decide)) fn120 ?_
  refine ⟨by simp, ?_⟩
  refine ⟨_, rfl, ?_⟩
  refine ⟨⟨by omega, by omega⟩, ?_⟩
  refine callq rfl (within_ct S hS) (by omega) ?_
  rintro _ rfl
  by_cases h : 0 ≤ x ∧ x < r.length
  · rw [decide_eq_true (show 0 ≤ x ∧ x ≤ r.length - 1 by omega), decide_eq_true h]
    exact endq rfl rfl
  · rw [decide_eq_false (show ¬ (0 ≤ x ∧ x ≤ r.length - 1) by omega), decide_eq_false h]
    exact endq rfl rfl
/-- squares of an origami of m squares -/
def InB (fs : List Int) (m : Nat) : Prop := ∀ x ∈ fs, 0 ≤ x ∧ x < m
theorem fn81 : ctx.fn 81 = some c81 := by kernel_rfl
theorem areSquares_ct (hS : OldO S) {fs r u : List Int} (hl : fs.length ≤ 1000000) (hr : r.length ≤ 1000000) : Ct (ctx.plus S) 81 [pIs fs, pO r u] 1 fun v => (InB fs r.length ∧ v = .bool true) ∨ (¬ InB fs r.length ∧ v = .bool false) := by
  refine ct_of (hS 81 (by decide)) fn81 ?_
  refine ⟨by omega, ?_⟩
  refine cal2 (fzL) (fz_fnc1 rfl) (containsFunc_ct S hS (d := 0) (P := fun x => !decide (0 ≤ x ∧ x < r.length)) rfl hl fun x _ => notSquare_ct S hS hr) (by omega) ?_
  rintro _ (⟨⟨x, hx, hp⟩, rfl⟩ | ⟨hall, rfl⟩)
  · exact endq rfl (.inr ⟨fun h => by have := h x hx; simp [this] at hp, rfl⟩)
  · exact endq rfl (.inl ⟨fun x hx => by have := hall x hx; simpa using this, rfl⟩)
end Go.PI
/- COVERINGS: whether a list is one, of the program and of the reference. -/
open Go.Proofs
namespace Go.PI
open IM
set_option maxRecDepth 10000
set_option maxHeartbeats 4000000
variable (S : FuncId → Option (List AV → Heap → Option (AV × Heap)))
/-- a map of n squares to m squares -/
structure IsF (fs : List Int) (n m : Nat) (h : Nat → Nat) : Prop where
  eq : fs = PL n h
  lt : ∀ x, x < n → h x < m
theorem isF_of {fs : List Int} {n m : Nat} (hl : fs.length = n) (hb : InB fs m) : ∃ h, IsF fs n m h := by
  have hget : ∀ i, i < n → fs[i]? = some (((fs.getD i 0).toNat : Nat) : Int) := fun i hi => by
    have e := List.getElem?_eq_getElem (show i < fs.length by omega)
    have := hb _ (List.getElem_mem (show i < fs.length by omega))
    rw [List.getD_eq_getElem?_getD, e]
    simp only [Option.getD_some]
    congr 1
    omega
  refine ⟨fun i => (fs.getD i 0).toNat, PL_ext hl hget, fun i hi => ?_⟩
  have := hb _ (List.mem_of_getElem? (hget i hi))
  show (fs.getD i 0).toNat < m
  omega
/-- the steps are kept -/
def Keeps (n : Nat) (h f g F G : Nat → Nat) : Prop := ∀ x, x < n → h (f x) = F (h x) ∧ h (g x) = G (h x)
def OntoP (fs : List Int) (m : Nat) : Prop := ∀ y : Nat, y < m → (y : Int) ∈ fs
/-! keys of a map -/
def keysOf (es : List (Int × PV)) : List Int := es.map (·.1)
theorem keys_set {n : Int} {v : PV} : ∀ {es : List (Int × PV)}, (keysOf es).Nodup → (keysOf (pmapSet es n v)).Nodup ∧ ∀ k, k ∈ keysOf (pmapSet es n v) ↔ k = n ∨ k ∈ keysOf es
  | [], _ => ⟨by simp [pmapSet, keysOf], fun k => by simp [pmapSet, keysOf]⟩
  | (k0, x) :: es, h => by
    have h2 := List.nodup_cons.1 (show (k0 :: keysOf es).Nodup from h)
    unfold pmapSet
    cases hb : k0 == n with
    | true =>
      have : k0 = n := by simpa using hb
      subst this
      refine ⟨h, fun k => ?_⟩
      show k ∈ k0 :: keysOf es ↔ k = k0 ∨ k ∈ k0 :: keysOf es
      simp
    | false =>
      have hne : k0 ≠ n := by simpa using hb
      obtain ⟨i1, i2⟩ := keys_set (n := n) (v := v) h2.2
      refine ⟨?_, fun k => ?_⟩
      · show (k0 :: keysOf (pmapSet es n v)).Nodup
        exact List.nodup_cons.2 ⟨fun hm => by
          rcases (i2 k0).1 hm with e | e
          · exact hne e
          · exact h2.1 e, i1⟩
      · show k ∈ k0 :: keysOf (pmapSet es n v) ↔ k = n ∨ k ∈ k0 :: keysOf es
        rw [List.mem_cons, i2, List.mem_cons]
        constructor
        · rintro (a | a | a)
          · exact .inr (.inl a)
          · exact .inl a
          · exact .inr (.inr a)
        · rintro (a | a | a)
          · exact .inr (.inl a)
          · exact .inl a
          · exact .inr (.inr a)
/-- the map whose keys are the first k of fs -/
def Cov (fs : List Int) (k : Nat) (es : List (Int × PV)) : Prop := (keysOf es).Nodup ∧ ∀ y, y ∈ keysOf es ↔ y ∈ fs.take k
theorem cov_next {fs : List Int} {k : Nat} {es : List (Int × PV)} {y : Int} {v : PV} (h : Cov fs k es) (hy : fs[k]? = some y) : Cov fs (k + 1) (pmapSet es y v) := by
  obtain ⟨i1, i2⟩ := keys_set (n := y) (v := v) h.1
  refine ⟨i1, fun z => ?_⟩
  rw [i2, take_snoc hy, List.mem_append, h.2]
  simp [or_comm]
theorem cov_len {fs : List Int} {es : List (Int × PV)} {m : Nat} (h : Cov fs fs.length es) (hb : InB fs m) : (es.length = m ↔ OntoP fs m) ∧ es.length ≤ m := by
  have hk : ∀ y, y ∈ keysOf es ↔ y ∈ fs := fun y => by rw [h.2, List.take_length]
  have hl : (keysOf es).length = es.length := by simp [keysOf]
  have hsub : ∀ y ∈ keysOf es, y ∈ List.map (fun k : Nat => (k : Int)) (List.range m) := fun y hy => by
    have := hb y ((hk y).1 hy)
    exact List.mem_map.2 ⟨y.toNat, List.mem_range.2 (by omega), by omega⟩
  have hle := len_le_of h.1 hsub
  rw [hl] at hle
  simp only [List.length_map, List.length_range] at hle
  refine ⟨⟨fun e y hy => ?_, fun ho => ?_⟩, hle⟩
  · rw [← hk]
    refine Classical.byContradiction fun hc => ?_
    have := len_le_of (l := (y : Int) :: keysOf es) (List.nodup_cons.2 ⟨hc, h.1⟩) (m := List.map (fun k : Nat => (k : Int)) (List.range m)) fun z hz => by
      rcases List.mem_cons.1 hz with rfl | hz
      · exact List.mem_map.2 ⟨y, List.mem_range.2 hy, rfl⟩
      · exact hsub z hz
    simp only [List.length_cons, List.length_map, List.length_range] at this
    omega
  · have hnd : (List.map (fun k : Nat => (k : Int)) (List.range m)).Nodup := by
      unfold List.Nodup
      rw [List.pairwise_map]
      exact List.pairwise_lt_range.imp fun hab e => by omega
    have := len_le_of hnd (m := keysOf es) fun z hz => by
      obtain ⟨k, hk2, rfl⟩ := List.mem_map.1 hz
      exact (hk _).2 (ho k (List.mem_range.1 hk2))
    simp only [List.length_map, List.length_range] at this
    omega
theorem fn82 : ctx.fn 82 = some c82 := by kernel_rfl
def CovP (fs : List Int) (n m : Nat) (h f g F G : Nat → Nat) : Prop := Keeps n h f g F G ∧ OntoP fs m
theorem isCovering_ct (hS : OldO S) {r u r2 u2 fs : List Int} {n m : Nat} {f f' g g' F F' G G' h : Nat → Nat} (ho : IsO r u n f f' g g') (ho2 : IsO r2 u2 m F F' G G') (hf : IsF fs n m h) :
    Ct (ctx.plus S) 82 [pO r u, pO r2 u2, pIs fs] (3 + 5 * n) fun v => (CovP fs n m h f g F G ∧ v = .bool true) ∨ (¬ CovP fs n m h f g F G ∧ v = .bool false) := by
  have hfl : fs.length = n := by rw [hf.eq, PL_len]
  have hget : ∀ i, i < n → fs[i]? = some (h i : Int) := fun i hi => by rw [hf.eq, PL_get hi]
  have hn := ho.le
  have hm := ho2.le
  have hin : InB fs m := fun x hx => by
    rw [hf.eq] at hx
    obtain ⟨i, hi, rfl⟩ := List.mem_map.1 hx
    have := hf.lt i (List.mem_range.1 hi)
    omega
  refine ct_of (hS 82 (by decide)) fn82 ?_
  refine ⟨by omega, by omega, ?_⟩
  refine ⟨by omega, ?_⟩
  refine ⟨fun q s => ∃ (i b : Nat) (es : List (Int × PV)) (τ : List StB) (T : List PV), s = ⟨T, [.live 24 [pIs r, pIs u], .live 24 [pIs r2, pIs u2], .mp .i64 es] ++ τ, b⟩ ∧ Gt T 49 [(2, pIs fs), (3, .optr 0 0), (4, .optr 1 0), (7, .omap 2), (14, pIs fs), (15, pn fs.length), (16, pn i)] ∧ q = n - i ∧ i ≤ n ∧ b ≤ 3 + 5 * i ∧ Hid (Cov fs i es ∧ Keeps i h f g F G), ⟨_, ci ⟨0, 3, [], [], _, rfl, ⟨rfl, rfl, rfl, rfl, rfl, rfl, rfl, rfl, trivial⟩, rfl, Nat.zero_le _, by omega, ⟨⟨List.nodup_nil, fun y => by simp [keysOf]⟩, fun x hx => by omega⟩⟩⟩, ?_⟩
  rintro _ s ⟨i, b, es, τ, T, rfl, hT, rfl, hi, hb, hh⟩
  obtain ⟨J, rfl⟩ := gt_open hT
  clear hT
  refine ⟨fun hlt => ?_, fun hge => ?_⟩
  · have hin' : i < n := by omega
    have he := hget i hin'
    have hhi := hf.lt i hin'
    refine ⟨⟨⟨by omega, by omega⟩, len_map_le (by omega)⟩, ?_⟩
    refine ⟨_, ld (at_map he) (by show _ * 1 = i; omega), ?_⟩
    refine ⟨es, _, ⟨rfl, rfl⟩, rfl, _, rfl, ?_⟩
    refine ⟨_, rfl, ?_⟩
    refine callq rfl (neighbours_ct S hS ho2 hhi) (by omega) ?_
    rintro _ rfl
    refine ⟨by omega, ?_⟩
    refine ⟨_, _, push_get, ⟨rfl, Nat.le_refl 2, rfl⟩, _, rfl, _, push_set, ?_⟩
    refine ⟨_, rfl, ?_⟩
    refine callq rfl (neighbours_ct S hS ho hin') (by omega) ?_
    rintro _ rfl
    refine ⟨fun q s => ∃ (k L b' : Nat) (σ' τ' : List StB) (T : List PV), s = ⟨T, σ', b'⟩ ∧ Gt T 49 [(2, pIs fs), (3, .optr 0 0), (4, .optr 1 0), (7, .omap 2), (8, pn i), (10, .optr L 0), (14, pIs fs), (15, pn fs.length), (16, pn i), (28, .agg [pn (f i), pn (g i)]), (29, pn k)] ∧ q = 2 - k ∧ k ≤ 2 ∧ b' ≤ 3 + 5 * (i + 1) ∧ Hid (σ' = [.live 24 [pIs r, pIs u], .live 24 [pIs r2, pIs u2], .mp .i64 (pmapSet es (h i) (.bool true))] ++ τ' ∧ σ'[L]? = some (.live 107 [pn (F (h i)), pn (G (h i))]) ∧ (0 < k → h (f i) = F (h i)) ∧ (1 < k → h (g i) = G (h i))), ⟨_, ci ⟨0, _, _, _, τ ++ [_], _, rfl, ⟨rfl, rfl, rfl, rfl, rfl, rfl, rfl, rfl, rfl, rfl, rfl, rfl, trivial⟩, rfl, Nat.zero_le _, by omega, ⟨rfl, push_get, fun a => by omega, fun a => by omega⟩⟩⟩, ?_⟩
    rintro _ s ⟨k, L, b', σ', τ', T, rfl, hT, rfl, hk, hb', hi2⟩
    obtain ⟨J, rfl⟩ := gt_open hT
    clear hT
    obtain ⟨e1, e2, e3, e4⟩ := hi2.h
    clear hi2
    subst e1
    refine ⟨fun hlt2 => ?_, fun hge2 => ?_⟩
    · have hne : CovP fs n m h f g F G → Keeps n h f g F G := fun h => h.1
      have hk2 : k = 0 ∨ k = 1 := by omega
      rcases hk2 with rfl | rfl
      · have hfi := ho.pr.lt i hin'
        refine ⟨⟨by omega, by omega⟩, _, rfl, ?_⟩
        refine ⟨by kernel_rfl, ?_⟩
        refine ⟨⟨⟨by omega, by omega⟩, len_map_le (by omega)⟩, ?_⟩
        refine ⟨_, ld (at_map (hget (f i) hfi)) (by show _ * 1 = f i; omega), rfl, ?_⟩
        refine ⟨⟨by omega, by omega⟩, ?_⟩
        refine ⟨_, load_k rfl rfl (contOf_live e2) (show [pn (F (h i)), pn (G (h i))][0]? = some (pn (F (h i))) from rfl) (by rfl), rfl, ?_⟩
        refine ⟨fun hbad => ?_, fun hgood => ?_⟩
        · exact endq rfl (.inr ⟨fun hc => hbad (by have := (hc.1 i hin').1; omega), rfl⟩)
        · refine ⟨⟨by omega, by omega⟩, ?_⟩
          exact ⟨_, by omega, ci ⟨1, L, b', _, τ', _, rfl, ⟨rfl, rfl, rfl, rfl, rfl, rfl, rfl, rfl, rfl, rfl, rfl, rfl, trivial⟩, rfl, by omega, by omega, ⟨rfl, e2, fun _ => by omega, fun a => by omega⟩⟩⟩
      · have hgi := ho.pu.lt i hin'
        refine ⟨⟨by omega, by omega⟩, _, rfl, ?_⟩
        refine ⟨by kernel_rfl, ?_⟩
        refine ⟨⟨⟨by omega, by omega⟩, len_map_le (by omega)⟩, ?_⟩
        refine ⟨_, ld (at_map (hget (g i) hgi)) (by show _ * 1 = g i; omega), rfl, ?_⟩
        refine ⟨⟨by omega, by omega⟩, ?_⟩
        refine ⟨_, load_k rfl rfl (contOf_live e2) (show [pn (F (h i)), pn (G (h i))][1]? = some (pn (G (h i))) from rfl) (by rfl), rfl, ?_⟩
        refine ⟨fun hbad => ?_, fun hgood => ?_⟩
        · exact endq rfl (.inr ⟨fun hc => hbad (by have := (hc.1 i hin').2; omega), rfl⟩)
        · refine ⟨⟨by omega, by omega⟩, ?_⟩
          exact ⟨_, by omega, ci ⟨2, L, b', _, τ', _, rfl, ⟨rfl, rfl, rfl, rfl, rfl, rfl, rfl, rfl, rfl, rfl, rfl, rfl, trivial⟩, rfl, by omega, by omega, ⟨rfl, e2, fun _ => e3 (by omega), fun _ => by omega⟩⟩⟩
    · refine ⟨⟨by omega, by omega⟩, ?_⟩
      exact ⟨_, by omega, ci ⟨i + 1, b', _, τ', _, rfl, ⟨rfl, rfl, rfl, rfl, rfl, rfl, rfl, rfl, trivial⟩, rfl, by omega, by omega, ⟨cov_next hh.h.1 he, fun x hx => by
        by_cases hxi : x = i
        · subst hxi; exact ⟨e3 (by omega), e4 (by omega)⟩
        · exact hh.h.2 x (by omega)⟩⟩⟩
  · have hin' : i = n := by omega
    subst hin'
    obtain ⟨c1, c2⟩ := cov_len (by rw [hfl]; exact hh.h.1) hin
    refine ⟨.i64, es, rfl, by omega, ?_⟩
    refine ⟨_, rfl, ?_⟩
    have hrl := ho2.l1.1
    refine ⟨fun heq => ?_, fun hne => ?_⟩
    · exact endq rfl (.inl ⟨⟨hh.h.2, c1.1 (by omega)⟩, rfl⟩)
    · exact endq rfl (.inr ⟨fun hc => hne (by have := c1.2 hc.2; omega), rfl⟩)
end Go.PI
/- COVERINGS: the checks whole; the law of proofs. -/
open Go.Proofs
namespace Go.PI
open IM
set_option maxRecDepth 10000
set_option maxHeartbeats 4000000
variable (S : FuncId → Option (List AV → Heap → Option (AV × Heap)))
theorem PL_getD {n : Nat} {f : Nat → Nat} {i : Nat} (h : i < n) : (PL n f).getD i 0 = (f i : Int) := by rw [List.getD_eq_getElem?_getD, PL_get h]; rfl
def CovL (r u r2 u2 fs : List Int) : Prop := (∀ x : Nat, x < r.length → fs.getD (r.getD x 0).toNat 0 = r2.getD (fs.getD x 0).toNat 0 ∧ fs.getD (u.getD x 0).toNat 0 = u2.getD (fs.getD x 0).toNat 0) ∧ OntoP fs r2.length
theorem covL_iff {r u r2 u2 fs : List Int} {n m : Nat} {f f' g g' F F' G G' h : Nat → Nat} (ho : IsO r u n f f' g g') (ho2 : IsO r2 u2 m F F' G G') (hf : IsF fs n m h) : CovL r u r2 u2 fs ↔ CovP fs n m h f g F G := by
  have l1 := ho.l1.1
  have l2 := ho2.l1.1
  unfold CovL CovP
  rw [l2]
  refine and_congr ?_ Iff.rfl
  rw [l1]
  have key : ∀ x, x < n → (fs.getD (r.getD x 0).toNat 0 = r2.getD (fs.getD x 0).toNat 0 ∧ fs.getD (u.getD x 0).toNat 0 = u2.getD (fs.getD x 0).toNat 0 ↔ h (f x) = F (h x) ∧ h (g x) = G (h x)) := fun x hx => by
    have a := ho.pr.lt x hx
    have b := ho.pu.lt x hx
    have c := hf.lt x hx
    rw [ho.hr, ho.hu, ho2.hr, ho2.hu, hf.eq, PL_getD hx, PL_getD hx, PL_getD hx, Int.toNat_natCast, Int.toNat_natCast, Int.toNat_natCast, PL_getD a, PL_getD b, PL_getD c, PL_getD c]
    omega
  exact ⟨fun h x hx => (key x hx).1 (h x hx), fun h x hx => (key x hx).2 (h x hx)⟩
open Classical in
noncomputable def chkM (r u r2 u2 fs : List Int) (same : Bool) : Int :=
  if chkA [(r, u), (r2, u2)] ≠ 0 then chkA [(r, u), (r2, u2)] else if fs.length ≠ r.length ∨ (same = true ∧ r.length ≠ r2.length) then 10 else if ¬ InB fs r2.length then 2 else if CovL r u r2 u2 fs then 0 else 18
section
variable {r u r2 u2 fs : List Int} {same : Bool}
theorem chkM_a (h : chkA [(r, u), (r2, u2)] ≠ 0) : chkM r u r2 u2 fs same = chkA [(r, u), (r2, u2)] := by unfold chkM; rw [if_pos h]
theorem chkM_10 (h : chkA [(r, u), (r2, u2)] = 0) (h2 : fs.length ≠ r.length ∨ (same = true ∧ r.length ≠ r2.length)) : chkM r u r2 u2 fs same = 10 := by unfold chkM; rw [if_neg (fun e => e h), if_pos h2]
theorem chkM_2 (h : chkA [(r, u), (r2, u2)] = 0) (h2 : ¬ (fs.length ≠ r.length ∨ (same = true ∧ r.length ≠ r2.length))) (h3 : ¬ InB fs r2.length) : chkM r u r2 u2 fs same = 2 := by unfold chkM; rw [if_neg (fun e => e h), if_neg h2, if_pos h3]
theorem chkM_0 (h : chkA [(r, u), (r2, u2)] = 0) (h2 : ¬ (fs.length ≠ r.length ∨ (same = true ∧ r.length ≠ r2.length))) (h3 : InB fs r2.length) (h4 : CovL r u r2 u2 fs) : chkM r u r2 u2 fs same = 0 := by unfold chkM; rw [if_neg (fun e => e h), if_neg h2, if_neg (fun e => e h3), if_pos h4]
theorem chkM_18 (h : chkA [(r, u), (r2, u2)] = 0) (h2 : ¬ (fs.length ≠ r.length ∨ (same = true ∧ r.length ≠ r2.length))) (h3 : InB fs r2.length) (h4 : ¬ CovL r u r2 u2 fs) : chkM r u r2 u2 fs same = 18 := by unfold chkM; rw [if_neg (fun e => e h), if_neg h2, if_neg (fun e => e h3), if_neg h4]
theorem chkA_two : chkA [(r, u), (r2, u2)] = 0 ↔ chkO r u = 0 ∧ chkO r2 u2 = 0 := by
  show (if chkO r u ≠ 0 then chkO r u else chkA [(r2, u2)]) = 0 ↔ _
  rw [chkA_one]
  by_cases h : chkO r u = 0
  · rw [if_neg (fun e => e h)]; simp [h]
  · rw [if_pos h]; simp [h]
theorem chkA_fst (h : chkO r u ≠ 0) : chkA [(r, u), (r2, u2)] = chkO r u := by
  show (if chkO r u ≠ 0 then chkO r u else chkA [(r2, u2)]) = _
  rw [if_pos h]
theorem chkA_snd (h : chkO r u = 0) : chkA [(r, u), (r2, u2)] = chkO r2 u2 := by
  show (if chkO r u ≠ 0 then chkO r u else chkA [(r2, u2)]) = _
  rw [if_neg (fun e => e h), chkA_one]
theorem chkA_valid (h : chkA [(r, u), (r2, u2)] = 0) : ∃ n m f f' g g' F F' G G', IsO r u n f f' g g' ∧ IsO r2 u2 m F F' G G' := by
  obtain ⟨a, b⟩ := chkA_two.1 h
  obtain ⟨n, f, f', g, g', ho⟩ := chkO_ok a
  obtain ⟨m, F, F', G, G', ho2⟩ := chkO_ok b
  exact ⟨n, m, f, f', g, g', F, F', G, G', ho, ho2⟩
end
theorem check2_ct (hS : OldO S) {r u r2 u2 : List Int} (l1 : r.length ≤ 1000000) (l2 : u.length ≤ 1000000) (l3 : r2.length ≤ 1000000) (l4 : u2.length ≤ 1000000) : Ct (ctx.plus S) 63 [pOs [(r, u), (r2, u2)]] 12 fun v => v = pn (chkA [(r, u), (r2, u2)]) :=
  checkAll_ct S hS (L := [(r, u), (r2, u2)]) (by simp) (fun p hp => by
    rcases List.mem_cons.1 hp with rfl | hp
    · exact ⟨l1, l2⟩
    · rw [List.mem_singleton.1 hp]; exact ⟨l3, l4⟩)
theorem fn38 : ctx.fn 38 = some c38 := by kernel_rfl
theorem checkCov_ct (hS : OldO S) {r u r2 u2 fs : List Int} (l1 : r.length ≤ 1000000) (l2 : u.length ≤ 1000000) (l3 : r2.length ≤ 1000000) (l4 : u2.length ≤ 1000000) (l5 : fs.length ≤ 1000000) : Ct (ctx.plus S) 38 [pO r u, pO r2 u2, pIs fs] 400 fun v => v = pn (chkM r u r2 u2 fs false) := by
  refine ct_of (hS 38 (by decide)) fn38 ?_
  refine ⟨by omega, by omega, ?_⟩
  refine ⟨_, rfl, ?_⟩
  refine ⟨_, rfl, ?_⟩
  refine ⟨by omega, partc rfl ⟨_, rfl, ?_⟩⟩
  refine cal1 (fz_own (ty := 24) rfl (Nat.le_refl 4) (Nat.le_refl _) rfl) (check2_ct S hS l1 l2 l3 l4) (by omega) ?_
  rintro _ rfl
  refine ⟨fun h0 => ?_, fun h0 => ?_⟩
  · exact endq rfl (by rw [chkM_a h0])
  refine ⟨_, rfl, ?_⟩
  refine ⟨fun h1 => ?_, fun h1 => ?_⟩
  · exact endq rfl (by rw [chkM_10 h0 (.inl (by omega))])
  have h2 : ¬ (fs.length ≠ r.length ∨ (false = true ∧ r.length ≠ r2.length)) := by simp; omega
  refine ⟨_, rfl, ?_⟩
  refine callq rfl (areSquares_ct S hS l5 l3) (by omega) ?_
  rintro _ (⟨h3, rfl⟩ | ⟨h3, rfl⟩)
  · obtain ⟨n, m, f, f', g, g', F, F', G, G', ho, ho2⟩ := chkA_valid h0
    have e1 := ho.l1.1
    have e2 := ho2.l1.1
    have hn := ho.le
    rw [e2] at h3
    obtain ⟨h, hf⟩ := isF_of (show fs.length = n by omega) h3
    have hiff := covL_iff ho ho2 hf
    refine ⟨_, rfl, ?_⟩
    refine ⟨_, rfl, ?_⟩
    refine callq rfl (isCovering_ct S hS ho ho2 hf) (by omega) ?_
    rintro _ (⟨h4, rfl⟩ | ⟨h4, rfl⟩)
    · exact endq rfl (by rw [chkM_0 h0 h2 (by rw [e2]; exact h3) (hiff.2 h4)])
    · exact endq rfl (by rw [chkM_18 h0 h2 (by rw [e2]; exact h3) (fun h => h4 (hiff.1 h))])
  · exact endq rfl (by rw [chkM_2 h0 h2 h3])
theorem fn36 : ctx.fn 36 = some c36 := by kernel_rfl
theorem chkM_same {r u r2 u2 fs : List Int} (h : r.length = r2.length) : chkM r u r2 u2 fs true = chkM r u r2 u2 fs false := by
  unfold chkM
  simp [h]
theorem checkIso_ct (hS : OldO S) {r u r2 u2 fs : List Int} (l1 : r.length ≤ 1000000) (l2 : u.length ≤ 1000000) (l3 : r2.length ≤ 1000000) (l4 : u2.length ≤ 1000000) (l5 : fs.length ≤ 1000000) : Ct (ctx.plus S) 36 [pO r u, pO r2 u2, pIs fs] 500 fun v => v = pn (chkM r u r2 u2 fs true) := by
  refine ct_of (hS 36 (by decide)) fn36 ?_
  refine ⟨by omega, by omega, ?_⟩
  refine ⟨_, rfl, ?_⟩
  refine ⟨_, rfl, ?_⟩
  refine ⟨by omega, partc rfl ⟨_, rfl, ?_⟩⟩
  refine cal1 (fz_own (ty := 24) rfl (Nat.le_refl 4) (Nat.le_refl _) rfl) (check2_ct S hS l1 l2 l3 l4) (by omega) ?_
  rintro _ rfl
  have rest : chkM r u r2 u2 fs true = chkM r u r2 u2 fs false → Ct (ctx.plus S) 38 [pO r u, pO r2 u2, pIs fs] 400 fun v => v = pn (chkM r u r2 u2 fs true) := fun h => by rw [h]; exact checkCov_ct S hS l1 l2 l3 l4 l5
  refine ⟨fun h0 => ?_, fun h0 => ?_⟩
  · refine ⟨_, rfl, ?_⟩
    refine ⟨_, rfl, ?_⟩
    refine ⟨fun h1 => ?_, fun h1 => ?_⟩
    · exact endq rfl (by rw [chkM_10 h0 (.inr ⟨rfl, by omega⟩)])
    · refine ⟨_, rfl, ?_⟩
      refine ⟨_, rfl, ?_⟩
      refine callq rfl (rest (chkM_same (by omega))) (by omega) ?_
      rintro _ rfl
      exact endq rfl rfl
  · refine ⟨_, rfl, ?_⟩
    refine ⟨_, rfl, ?_⟩
    refine callq rfl (rest (by rw [chkM_a h0, chkM_a h0])) (by omega) ?_
    rintro _ rfl
    exact endq rfl rfl
theorem fn35 : ctx.fn 35 = some c35 := by kernel_rfl
theorem size_ct (hS : OldO S) {r u : List Int} : Ct (ctx.plus S) 35 [pO r u] 1 fun v => v = pn r.length := by
  refine ct_of (hS 35 (by decide)) fn35 ?_
  refine ⟨by omega, ?_⟩
  refine ⟨_, rfl, ?_⟩
  exact endq rfl rfl
theorem fn79 : ctx.fn 79 = some c79 := by kernel_rfl
theorem isMap_ct (hS : OldO S) {r u r2 u2 fs : List Int} {n m : Nat} {f f' g g' F F' G G' h : Nat → Nat} (ho : IsO r u n f f' g g') (ho2 : IsO r2 u2 m F F' G G') (hf : IsF fs n m h) :
    Ct (ctx.plus S) 79 [pO r u, pO r2 u2, pIs fs] 100 fun v => (Keeps n h f g F G ∧ v = .bool true) ∨ (¬ Keeps n h f g F G ∧ v = .bool false) := by
  have hfl : fs.length = n := by rw [hf.eq, PL_len]
  have hget : ∀ i, i < n → fs[i]? = some (h i : Int) := fun i hi => by rw [hf.eq, PL_get hi]
  have hn := ho.le
  have hm := ho2.le
  obtain ⟨a1, a2⟩ := ho.l1
  obtain ⟨a3, a4⟩ := ho2.l1
  have gr : ∀ i, i < n → r[i]? = some (f i : Int) := fun i hi => by rw [ho.hr, PL_get hi]
  have gu : ∀ i, i < n → u[i]? = some (g i : Int) := fun i hi => by rw [ho.hu, PL_get hi]
  have gr2 : ∀ i, i < m → r2[i]? = some (F i : Int) := fun i hi => by rw [ho2.hr, PL_get hi]
  have gu2 : ∀ i, i < m → u2[i]? = some (G i : Int) := fun i hi => by rw [ho2.hu, PL_get hi]
  refine ct_of (hS 79 (by decide)) fn79 ?_
  refine ⟨by omega, by omega, ?_⟩
  refine ⟨fun q s => ∃ (i : Nat) (T : List PV), s = ⟨T, [.live 24 [pIs r, pIs u], .live 24 [pIs r2, pIs u2]], 2 + i⟩ ∧ Gt T 50 [(2, pIs fs), (3, .optr 0 0), (4, .optr 1 0), (7, pn i)] ∧ q = n - i ∧ i ≤ n ∧ Hid (Keeps i h f g F G), ⟨_, ci ⟨0, _, rfl, ⟨rfl, rfl, rfl, rfl, rfl, trivial⟩, rfl, Nat.zero_le _, ⟨fun x hx => by omega⟩⟩⟩, ?_⟩
  rintro _ s ⟨i, T, rfl, hT, rfl, hi, hk⟩
  obtain ⟨J, rfl⟩ := gt_open hT
  clear hT
  refine ⟨_, rfl, ?_⟩
  refine callq rfl (size_ct S hS) (by omega) ?_
  rintro _ rfl
  refine ⟨fun hlt => ?_, fun hge => ?_⟩
  · have hin : i < n := by omega
    have c1 := ho.pr.lt i hin
    have c2 := ho.pu.lt i hin
    have c3 := hf.lt i hin
    refine ⟨by kernel_rfl, ?_⟩
    refine ⟨_, rfl, rfl, ?_⟩
    refine ⟨⟨⟨by omega, by omega⟩, len_map_le (by omega)⟩, ?_⟩
    refine ⟨_, ld (at_map (gr i hin)) (by show _ * 1 = i; omega), rfl, ?_⟩
    refine ⟨⟨⟨by omega, by omega⟩, len_map_le (by omega)⟩, ?_⟩
    refine ⟨_, ld (at_map (hget (f i) c1)) (by show _ * 1 = f i; omega), rfl, ?_⟩
    refine ⟨_, rfl, rfl, ?_⟩
    refine ⟨⟨⟨by omega, by omega⟩, len_map_le (by omega)⟩, ?_⟩
    refine ⟨_, ld (at_map (hget i hin)) (by show _ * 1 = i; omega), rfl, ?_⟩
    refine ⟨⟨⟨by omega, by omega⟩, len_map_le (by omega)⟩, ?_⟩
    refine ⟨_, ld (at_map (gr2 (h i) c3)) (by show _ * 1 = h i; omega), rfl, ?_⟩
    refine ⟨fun h1 => ?_, fun h1 => ?_⟩
    · exact endq rfl (.inr ⟨fun hc => h1 (by have := (hc i hin).1; omega), rfl⟩)
    refine ⟨_, rfl, rfl, ?_⟩
    refine ⟨⟨⟨by omega, by omega⟩, len_map_le (by omega)⟩, ?_⟩
    refine ⟨_, ld (at_map (gu i hin)) (by show _ * 1 = i; omega), rfl, ?_⟩
    refine ⟨⟨⟨by omega, by omega⟩, len_map_le (by omega)⟩, ?_⟩
    refine ⟨_, ld (at_map (hget (g i) c2)) (by show _ * 1 = g i; omega), rfl, ?_⟩
    refine ⟨_, rfl, rfl, ?_⟩
    refine ⟨⟨⟨by omega, by omega⟩, len_map_le (by omega)⟩, ?_⟩
    refine ⟨_, ld (at_map (hget i hin)) (by show _ * 1 = i; omega), rfl, ?_⟩
    refine ⟨⟨⟨by omega, by omega⟩, len_map_le (by omega)⟩, ?_⟩
    refine ⟨_, ld (at_map (gu2 (h i) c3)) (by show _ * 1 = h i; omega), rfl, ?_⟩
    refine ⟨fun h2 => ?_, fun h2 => ?_⟩
    · exact endq rfl (.inr ⟨fun hc => h2 (by have := (hc i hin).2; omega), rfl⟩)
    refine ⟨⟨by omega, by omega⟩, ?_⟩
    exact ⟨_, by omega, ci ⟨i + 1, _, rfl, ⟨rfl, rfl, rfl, rfl, rfl, trivial⟩, rfl, by omega, ⟨fun x hx => by
      by_cases hxi : x = i
      · subst hxi; omega
      · exact hk.h x (by omega)⟩⟩⟩
  · have hin : i = n := by omega
    subst hin
    exact endq rfl (.inl ⟨hk.h, rfl⟩)
theorem fn80 : ctx.fn 80 = some c80 := by kernel_rfl
theorem onto_ct (hS : OldO S) {r u fs : List Int} {m : Nat} (hr : r.length = m) (hm : m ≤ 60) (hl : fs.length ≤ 1000000) :
    Ct (ctx.plus S) 80 [pO r u, pIs fs] 100 fun v => (OntoP fs m ∧ v = .bool true) ∨ (¬ OntoP fs m ∧ v = .bool false) := by
  refine ct_of (hS 80 (by decide)) fn80 ?_
  refine ⟨by omega, ?_⟩
  refine ⟨fun q s => ∃ (i : Nat) (T : List PV), s = ⟨T, [.live 24 [pIs r, pIs u]], 1 + i⟩ ∧ Gt T 16 [(1, pIs fs), (2, .optr 0 0), (5, pn i)] ∧ q = m - i ∧ i ≤ m ∧ Hid (OntoP fs i), ⟨_, ci ⟨0, _, rfl, ⟨rfl, rfl, rfl, rfl, trivial⟩, rfl, Nat.zero_le _, ⟨fun x hx => by omega⟩⟩⟩, ?_⟩
  rintro _ s ⟨i, T, rfl, hT, rfl, hi, hk⟩
  obtain ⟨J, rfl⟩ := gt_open hT
  clear hT
  refine ⟨_, rfl, ?_⟩
  refine callq rfl (size_ct S hS) (by omega) ?_
  rintro _ rfl
  refine ⟨fun hlt => ?_, fun hge => ?_⟩
  · have hin : i < m := by omega
    refine callq rfl (at_ct S hS hl) (by omega) ?_
    rintro _ rfl
    by_cases hmem : (i : Int) ∈ fs
    · have hix : 0 ≤ idx fs i := by unfold idx; rw [if_pos hmem]; omega
      refine ⟨fun h => by omega, fun _ => ?_⟩
      refine ⟨⟨by omega, by omega⟩, ?_⟩
      exact ⟨_, by omega, ci ⟨i + 1, _, rfl, ⟨rfl, rfl, rfl, rfl, trivial⟩, rfl, by omega, ⟨fun x hx => by
        by_cases hxi : x = i
        · subst hxi; exact hmem
        · exact hk.h x (by omega)⟩⟩⟩
    · have hix : idx fs i = -1 := by unfold idx; rw [if_neg hmem]
      refine ⟨fun _ => ?_, fun h => by omega⟩
      exact endq rfl (.inr ⟨fun hc => hmem (hc i hin), rfl⟩)
  · have hin : i = m := by omega
    subst hin
    exact endq rfl (.inl ⟨hk.h, rfl⟩)
theorem fn37 : ctx.fn 37 = some c37 := by kernel_rfl
theorem rcheckMap_ct (hS : OldO S) {r u r2 u2 fs : List Int} {same : Bool} (l1 : r.length ≤ 1000000) (l2 : u.length ≤ 1000000) (l3 : r2.length ≤ 1000000) (l4 : u2.length ≤ 1000000) (l5 : fs.length ≤ 70) : Ct (ctx.plus S) 37 [pO r u, pO r2 u2, pIs fs, .bool same] 400 fun v => v = pn (chkM r u r2 u2 fs same) := by
  have loop : chkA [(r, u), (r2, u2)] = 0 → ¬ (fs.length ≠ r.length ∨ (same = true ∧ r.length ≠ r2.length)) → True := fun _ _ => trivial
  clear loop
  refine ct_of (hS 37 (by decide)) fn37 ?_
  refine ⟨by omega, by omega, ?_⟩
  refine ⟨_, rfl, ?_⟩
  refine callq rfl (rcheck_ct S hS l1 l2) (by omega) ?_
  rintro _ rfl
  refine ⟨fun h0 => ?_, fun h0 => ?_⟩
  · exact endq rfl (by rw [chkM_a (by rw [chkA_fst h0]; exact h0), chkA_fst h0])
  refine ⟨_, rfl, ?_⟩
  refine callq rfl (rcheck_ct S hS l3 l4) (by omega) ?_
  rintro _ rfl
  refine ⟨fun h1 => ?_, fun h1 => ?_⟩
  · exact endq rfl (by rw [chkM_a (by rw [chkA_snd h0]; exact h1), chkA_snd h0])
  have hA : chkA [(r, u), (r2, u2)] = 0 := chkA_two.2 ⟨h0, h1⟩
  obtain ⟨n, m, f, f', g, g', F, F', G, G', ho, ho2⟩ := chkA_valid hA
  have e1 := ho.l1.1
  have e2 := ho2.l1.1
  have hn := ho.le
  have hm := ho2.le
  refine ⟨by kernel_rfl, ?_⟩
  refine ⟨_, rfl, rfl, ?_⟩
  refine callq rfl (size_ct S hS) (by omega) ?_
  rintro _ rfl
  refine ⟨fun h2 => ?_, fun h2 => ?_⟩
  · exact endq rfl (by rw [chkM_10 hA (.inl (by omega))])
  cases same with
  | false =>
    have h3 : ¬ (fs.length ≠ r.length ∨ (false = true ∧ r.length ≠ r2.length)) := by simp; omega
    refine ⟨fun q s => ∃ (i b : Nat) (T : List PV), s = ⟨T, [.live 24 [pIs r, pIs u], .live 24 [pIs r2, pIs u2]], b⟩ ∧ Gt T 68 [(2, pIs fs), (4, .optr 0 0), (5, .optr 1 0), (11, pn i)] ∧ q = fs.length - i ∧ i ≤ fs.length ∧ b ≤ 10 + i ∧ Hid (∀ x ∈ fs.take i, 0 ≤ x ∧ x < m), ⟨_, ci ⟨0, _, _, rfl, ⟨rfl, rfl, rfl, rfl, rfl, trivial⟩, rfl, Nat.zero_le _, by omega, ⟨fun x hx => by simp at hx⟩⟩⟩, ?_⟩
    rintro _ s ⟨i, b, T, rfl, hT, rfl, hi, hb, hk⟩
    obtain ⟨J, rfl⟩ := gt_open hT
    clear hT
    refine ⟨fun hlt => ?_, fun hge => ?_⟩
    · obtain ⟨e, he⟩ := xs_get (xs := fs) (i := i) (by omega)
      have hbad : ¬ (0 ≤ e ∧ e < m) → ¬ InB fs r2.length := fun h hc => h (by have := hc e (List.mem_of_getElem? he); rw [e2] at this; exact this)
      refine ⟨by kernel_rfl, ?_⟩
      refine ⟨⟨⟨by omega, by omega⟩, len_map_le (by omega)⟩, ?_⟩
      refine ⟨_, ld (at_map he) (by show _ * 1 = i; omega), rfl, ?_⟩
      refine ⟨fun h4 => ?_, fun h4 => ?_⟩
      · exact endq rfl (by rw [chkM_2 hA h3 (hbad (by omega))])
      refine ⟨⟨⟨by omega, by omega⟩, len_map_le (by omega)⟩, ?_⟩
      refine ⟨_, ld (at_map he) (by show _ * 1 = i; omega), rfl, ?_⟩
      refine ⟨_, rfl, rfl, ?_⟩
      refine callq rfl (size_ct S hS) (by omega) ?_
      rintro _ rfl
      refine ⟨fun h5 => ?_, fun h5 => ?_⟩
      · exact endq rfl (by rw [chkM_2 hA h3 (hbad (by omega))])
      refine ⟨⟨by omega, by omega⟩, ?_⟩
      exact ⟨_, by omega, ci ⟨i + 1, _, _, rfl, ⟨rfl, rfl, rfl, rfl, rfl, trivial⟩, rfl, by omega, by omega, ⟨fun x hx => by
        rw [take_snoc he] at hx
        rcases List.mem_append.1 hx with hx | hx
        · exact hk.h x hx
        · rw [List.mem_singleton.1 hx]; omega⟩⟩⟩
    · have hB : InB fs m := by
        have := hk.h
        rwa [List.take_of_length_le (by omega)] at this
      obtain ⟨h, hf⟩ := isF_of (show fs.length = n by omega) hB
      have hiff := covL_iff ho ho2 hf
      have hB2 : InB fs r2.length := by rw [e2]; exact hB
      refine ⟨_, rfl, ?_⟩
      refine ⟨_, rfl, ?_⟩
      refine callq rfl (isMap_ct S hS ho ho2 hf) (by omega) ?_
      rintro _ (⟨h6, rfl⟩ | ⟨h6, rfl⟩)
      · refine ⟨_, rfl, ?_⟩
        refine callq rfl (onto_ct S hS e2 hm (by omega)) (by omega) ?_
        rintro _ (⟨h7, rfl⟩ | ⟨h7, rfl⟩)
        · exact endq rfl (by rw [chkM_0 hA h3 hB2 (hiff.2 ⟨h6, h7⟩)])
        · exact endq rfl (by rw [chkM_18 hA h3 hB2 (fun hc => h7 (hiff.1 hc).2)])
      · exact endq rfl (by rw [chkM_18 hA h3 hB2 (fun hc => h6 (hiff.1 hc).1)])
  | true =>
    refine ⟨_, rfl, rfl, ?_⟩
    refine callq rfl (size_ct S hS) (by omega) ?_
    rintro _ rfl
    refine ⟨_, rfl, rfl, ?_⟩
    refine callq rfl (size_ct S hS) (by omega) ?_
    rintro _ rfl
    refine ⟨fun hd => ?_, fun hd => ?_⟩
    · exact endq rfl (by rw [chkM_10 hA (.inr ⟨rfl, by omega⟩)])
    have h3 : ¬ (fs.length ≠ r.length ∨ (true = true ∧ r.length ≠ r2.length)) := by simp; omega
    refine ⟨fun q s => ∃ (i b : Nat) (T : List PV), s = ⟨T, [.live 24 [pIs r, pIs u], .live 24 [pIs r2, pIs u2]], b⟩ ∧ Gt T 68 [(2, pIs fs), (4, .optr 0 0), (5, .optr 1 0), (11, pn i)] ∧ q = fs.length - i ∧ i ≤ fs.length ∧ b ≤ 10 + i ∧ Hid (∀ x ∈ fs.take i, 0 ≤ x ∧ x < m), ⟨_, ci ⟨0, _, _, rfl, ⟨rfl, rfl, rfl, rfl, rfl, trivial⟩, rfl, Nat.zero_le _, by omega, ⟨fun x hx => by simp at hx⟩⟩⟩, ?_⟩
    rintro _ s ⟨i, b, T, rfl, hT, rfl, hi, hb, hk⟩
    obtain ⟨J, rfl⟩ := gt_open hT
    clear hT
    refine ⟨fun hlt => ?_, fun hge => ?_⟩
    · obtain ⟨e, he⟩ := xs_get (xs := fs) (i := i) (by omega)
      have hbad : ¬ (0 ≤ e ∧ e < m) → ¬ InB fs r2.length := fun h hc => h (by have := hc e (List.mem_of_getElem? he); rw [e2] at this; exact this)
      refine ⟨by kernel_rfl, ?_⟩
      refine ⟨⟨⟨by omega, by omega⟩, len_map_le (by omega)⟩, ?_⟩
      refine ⟨_, ld (at_map he) (by show _ * 1 = i; omega), rfl, ?_⟩
      refine ⟨fun h4 => ?_, fun h4 => ?_⟩
      · exact endq rfl (by rw [chkM_2 hA h3 (hbad (by omega))])
      refine ⟨⟨⟨by omega, by omega⟩, len_map_le (by omega)⟩, ?_⟩
      refine ⟨_, ld (at_map he) (by show _ * 1 = i; omega), rfl, ?_⟩
      refine ⟨_, rfl, rfl, ?_⟩
      refine callq rfl (size_ct S hS) (by omega) ?_
      rintro _ rfl
      refine ⟨fun h5 => ?_, fun h5 => ?_⟩
      · exact endq rfl (by rw [chkM_2 hA h3 (hbad (by omega))])
      refine ⟨⟨by omega, by omega⟩, ?_⟩
      exact ⟨_, by omega, ci ⟨i + 1, _, _, rfl, ⟨rfl, rfl, rfl, rfl, rfl, trivial⟩, rfl, by omega, by omega, ⟨fun x hx => by
        rw [take_snoc he] at hx
        rcases List.mem_append.1 hx with hx | hx
        · exact hk.h x hx
        · rw [List.mem_singleton.1 hx]; omega⟩⟩⟩
    · have hB : InB fs m := by
        have := hk.h
        rwa [List.take_of_length_le (by omega)] at this
      obtain ⟨h, hf⟩ := isF_of (show fs.length = n by omega) hB
      have hiff := covL_iff ho ho2 hf
      have hB2 : InB fs r2.length := by rw [e2]; exact hB
      refine ⟨_, rfl, ?_⟩
      refine ⟨_, rfl, ?_⟩
      refine callq rfl (isMap_ct S hS ho ho2 hf) (by omega) ?_
      rintro _ (⟨h6, rfl⟩ | ⟨h6, rfl⟩)
      · refine ⟨_, rfl, ?_⟩
        refine callq rfl (onto_ct S hS e2 hm (by omega)) (by omega) ?_
        rintro _ (⟨h7, rfl⟩ | ⟨h7, rfl⟩)
        · exact endq rfl (by rw [chkM_0 hA h3 hB2 (hiff.2 ⟨h6, h7⟩)])
        · exact endq rfl (by rw [chkM_18 hA h3 hB2 (fun hc => h7 (hiff.1 hc).2)])
      · exact endq rfl (by rw [chkM_18 hA h3 hB2 (fun hc => h6 (hiff.1 hc).1)])
theorem fn6 : ctx.fn 6 = some c6 := by kernel_rfl
theorem proofLaw_ct (hS : OldO S) (hA : Ct (ctx.plus S) 13 [] 0 fun r => r = .bool true) {r u r2 u2 fs : List Int} : Ct (ctx.plus S) 6 [pO r u, pO r2 u2, pIs fs] 10000 fun v => v = .bool true := by
  refine ct_of (hS 6 (by decide)) fn6 ?_
  refine ⟨by omega, by omega, ?_⟩
  refine callq rfl hA (by omega) ?_
  rintro _ rfl
  refine ⟨_, rfl, ?_⟩
  refine callq rfl (few_ct S hS) (by omega) ?_
  rintro _ (⟨hf, rfl⟩ | ⟨hf, rfl⟩)
  · refine ⟨_, rfl, ?_⟩
    refine callq rfl (few_ct S hS) (by omega) ?_
    rintro _ (⟨hf2, rfl⟩ | ⟨hf2, rfl⟩)
    · refine ⟨fun _ => endq rfl rfl, fun h70 => ?_⟩
      have l1 : r.length ≤ 62 ∧ u.length ≤ 62 := by rcases hf with h | h <;> omega
      have l2 : r2.length ≤ 62 ∧ u2.length ≤ 62 := by rcases hf2 with h | h <;> omega
      refine ⟨by kernel_rfl, ?_⟩
      refine ⟨_, rfl, rfl, ?_⟩
      refine ⟨_, rfl, rfl, ?_⟩
      refine callq rfl (checkIso_ct S hS (by omega) (by omega) (by omega) (by omega) (by omega)) (by omega) ?_
      rintro _ rfl
      refine ⟨_, rfl, rfl, ?_⟩
      refine ⟨_, rfl, rfl, ?_⟩
      refine callq rfl (rcheckMap_ct S hS (by omega) (by omega) (by omega) (by omega) (by omega)) (by omega) ?_
      rintro _ rfl
      refine ⟨fun _ => ?_, fun h => absurd rfl h⟩
      refine ⟨_, rfl, rfl, ?_⟩
      refine ⟨_, rfl, rfl, ?_⟩
      refine callq rfl (checkCov_ct S hS (by omega) (by omega) (by omega) (by omega) (by omega)) (by omega) ?_
      rintro _ rfl
      refine ⟨_, rfl, rfl, ?_⟩
      refine ⟨_, rfl, rfl, ?_⟩
      refine callq rfl (rcheckMap_ct S hS (by omega) (by omega) (by omega) (by omega) (by omega)) (by omega) ?_
      rintro _ rfl
      refine ⟨fun _ => ?_, fun h => absurd rfl h⟩
      exact endq rfl rfl
    · exact endq rfl rfl
  · exact endq rfl rfl
end Go.PI
