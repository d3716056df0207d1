/- Own work of the verifier: OgH OgI OgJ OgR OgS OgT. -/
import Derived.Test.YtefajaiioljjoaaOuAW
import Derived.Test.YtefajaiioljjoaaOuAT
set_option linter.all false
set_option exponentiation.threshold 3000
set_option linter.deprecated false
/- COVERINGS: what is asked of a list, of the program and of the reference. -/
open Go.Proofs
namespace Go.PI
open IM
set_option maxRecDepth 10000
set_option maxHeartbeats 4000000
variable (S : FuncId → Option (List AV → Heap → Option (AV × Heap)))
theorem fn121 : ctx.fn 121 = some c121 := by kernel_rfl
theorem neighbours_ct (hS : OldO S) {r u : List Int} {n x : Nat} {f f' g g' : Nat → Nat} (h : IsO r u n f f' g g') (hx : x < n) : Ct (ctx.plus S) 121 [pO r u, pn x] 2 fun v => v = .agg [pn (f x), pn (g x)] := by
  obtain ⟨h0, hn, rfl, rfl, pr, pu⟩ := h
  have l1 : (PL n f).length = n := PL_len
  have l2 : (PL n g).length = n := PL_len
  refine ct_of (hS 121 (by decide)) fn121 ?_
  refine ⟨by omega, by omega, ?_⟩
  refine ⟨by kernel_rfl, ?_⟩
  refine ⟨_, rfl, rfl, ?_⟩
  refine ⟨⟨⟨by omega, by omega⟩, len_map_le (by omega)⟩, ?_⟩
  refine ⟨_, ld (at_map (PL_get hx)) (by show _ * 1 = x; omega), rfl, ?_⟩
  refine ⟨_, rfl, rfl, ?_⟩
  refine ⟨⟨⟨by omega, by omega⟩, len_map_le (by omega)⟩, ?_⟩
  refine ⟨_, ld (at_map (PL_get hx)) (by show _ * 1 = x; omega), rfl, ?_⟩
  refine partc rfl ⟨_, rfl, ?_⟩
  refine ⟨_, _, rfl, ⟨rfl, Nat.le_refl 2, rfl⟩, _, rfl, _, rfl, ?_⟩
  exact ⟨_, rfl, endq rfl rfl⟩
theorem fn120 : ctx.fn 120 = some c120 := by kernel_rfl
theorem notSquare_ct (hS : OldO S) {r u : List Int} {x : Int} (hl : r.length ≤ 1000000) : Ct (ctx.plus S) 120 [pn x, .lptr [pIs r, pIs u]] 0 fun v => v = .bool (!decide (0 ≤ x ∧ x < r.length)) := by
  refine ct_of (hS 120 (by decide)) fn120 ?_
  refine ⟨by simp, ?_⟩
  refine ⟨_, rfl, ?_⟩
  refine ⟨⟨by omega, by omega⟩, ?_⟩
  refine callq rfl (within_ct S hS) (by omega) ?_
  rintro _ rfl
  by_cases h : 0 ≤ x ∧ x < r.length
  · rw [decide_eq_true (show 0 ≤ x ∧ x ≤ r.length - 1 by omega), decide_eq_true h]
    exact endq rfl rfl
  · rw [decide_eq_false (show ¬ (0 ≤ x ∧ x ≤ r.length - 1) by omega), decide_eq_false h]
    exact endq rfl rfl
def InB (fs : List Int) (m : Nat) : Prop := ∀ x ∈ fs, 0 ≤ x ∧ x < m
theorem fn81 : ctx.fn 81 = some c81 := by kernel_rfl
theorem areSquares_ct (hS : OldO S) {fs r u : List Int} (hl : fs.length ≤ 1000000) (hr : r.length ≤ 1000000) : Ct (ctx.plus S) 81 [pIs fs, pO r u] 1 fun v => (InB fs r.length ∧ v = .bool true) ∨ (¬ InB fs r.length ∧ v = .bool false) := by
  refine ct_of (hS 81 (by decide)) fn81 ?_
  refine ⟨by omega, ?_⟩
  refine cal2 (fzL) (fz_fnc1 rfl) (containsFunc_ct S hS (d := 0) (P := fun x => !decide (0 ≤ x ∧ x < r.length)) rfl hl fun x _ => notSquare_ct S hS hr) (by omega) ?_
  rintro _ (⟨⟨x, hx, hp⟩, rfl⟩ | ⟨hall, rfl⟩)
  · exact endq rfl (.inr ⟨fun h => by have := h x hx; simp [this] at hp, rfl⟩)
  · exact endq rfl (.inl ⟨fun x hx => by have := hall x hx; simpa using this, rfl⟩)
end Go.PI
/- COVERINGS: whether a list is one, of the program and of the reference. -/
open Go.Proofs
namespace Go.PI
open IM
set_option maxRecDepth 10000
set_option maxHeartbeats 4000000
variable (S : FuncId → Option (List AV → Heap → Option (AV × Heap)))
structure IsF (fs : List Int) (n m : Nat) (h : Nat → Nat) : Prop where
  eq : fs = PL n h
  lt : ∀ x, x < n → h x < m
theorem isF_of {fs : List Int} {n m : Nat} (hl : fs.length = n) (hb : InB fs m) : ∃ h, IsF fs n m h := by
  have hget : ∀ i, i < n → fs[i]? = some (((fs.getD i 0).toNat : Nat) : Int) := fun i hi => by
    have e := List.getElem?_eq_getElem (show i < fs.length by omega)
    have := hb _ (List.getElem_mem (show i < fs.length by omega))
    rw [List.getD_eq_getElem?_getD, e]
    simp only [Option.getD_some]
    congr 1
    omega
  refine ⟨fun i => (fs.getD i 0).toNat, PL_ext hl hget, fun i hi => ?_⟩
  have := hb _ (List.mem_of_getElem? (hget i hi))
  show (fs.getD i 0).toNat < m
  omega
def Keeps (n : Nat) (h f g F G : Nat → Nat) : Prop := ∀ x, x < n → h (f x) = F (h x) ∧ h (g x) = G (h x)
def OntoP (fs : List Int) (m : Nat) : Prop := ∀ y : Nat, y < m → (y : Int) ∈ fs
def keysOf (es : List (Int × PV)) : List Int := es.map (·.1)
theorem keys_set {n : Int} {v : PV} : ∀ {es : List (Int × PV)}, (keysOf es).Nodup → (keysOf (pmapSet es n v)).Nodup ∧ ∀ k, k ∈ keysOf (pmapSet es n v) ↔ k = n ∨ k ∈ keysOf es
  | [], _ => ⟨by simp [pmapSet, keysOf], fun k => by simp [pmapSet, keysOf]⟩
  | (k0, x) :: es, h => by
    have h2 := List.nodup_cons.1 (show (k0 :: keysOf es).Nodup from h)
    unfold pmapSet
    cases hb : k0 == n with
    | true =>
      have : k0 = n := by simpa using hb
      subst this
      refine ⟨h, fun k => ?_⟩
      show k ∈ k0 :: keysOf es ↔ k = k0 ∨ k ∈ k0 :: keysOf es
      simp
    | false =>
      have hne : k0 ≠ n := by simpa using hb
      obtain ⟨i1, i2⟩ := keys_set (n := n) (v := v) h2.2
      refine ⟨?_, fun k => ?_⟩
      · show (k0 :: keysOf (pmapSet es n v)).Nodup
        exact List.nodup_cons.2 ⟨fun hm => by
          rcases (i2 k0).1 hm with e | e
          · exact hne e
          · exact h2.1 e, i1⟩
      · show k ∈ k0 :: keysOf (pmapSet es n v) ↔ k = n ∨ k ∈ k0 :: keysOf es
        rw [List.mem_cons, i2, List.mem_cons]
        constructor
        · rintro (a | a | a)
          · exact .inr (.inl a)
          · exact .inl a
          · exact .inr (.inr a)
        · rintro (a | a | a)
          · exact .inr (.inl a)
          · exact .inl a
          · exact .inr (.inr a)
def Cov (fs : List Int) (k : Nat) (es : List (Int × PV)) : Prop := (keysOf es).Nodup ∧ ∀ y, y ∈ keysOf es ↔ y ∈ fs.take k
theorem cov_next {fs : List Int} {k : Nat} {es : List (Int × PV)} {y : Int} {v : PV} (h : Cov fs k es) (hy : fs[k]? = some y) : Cov fs (k + 1) (pmapSet es y v) := by
  obtain ⟨i1, i2⟩ := keys_set (n := y) (v := v) h.1
  refine ⟨i1, fun z => ?_⟩
  rw [i2, take_snoc hy, List.mem_append, h.2]
  simp [or_comm]
theorem cov_len {fs : List Int} {es : List (Int × PV)} {m : Nat} (h : Cov fs fs.length es) (hb : InB fs m) : (es.length = m ↔ OntoP fs m) ∧ es.length ≤ m := by
  have hk : ∀ y, y ∈ keysOf es ↔ y ∈ fs := fun y => by rw [h.2, List.take_length]
  have hl : (keysOf es).length = es.length := by simp [keysOf]
  have hsub : ∀ y ∈ keysOf es, y ∈ List.map (fun k : Nat => (k : Int)) (List.range m) := fun y hy => by
    have := hb y ((hk y).1 hy)
    exact List.mem_map.2 ⟨y.toNat, List.mem_range.2 (by omega), by omega⟩
  have hle := len_le_of h.1 hsub
  rw [hl] at hle
  simp only [List.length_map, List.length_range] at hle
  refine ⟨⟨fun e y hy => ?_, fun ho => ?_⟩, hle⟩
  · rw [← hk]
    refine Classical.byContradiction fun hc => ?_
    have := len_le_of (l := (y : Int) :: keysOf es) (List.nodup_cons.2 ⟨hc, h.1⟩) (m := List.map (fun k : Nat => (k : Int)) (List.range m)) fun z hz => by
      rcases List.mem_cons.1 hz with rfl | hz
      · exact List.mem_map.2 ⟨y, List.mem_range.2 hy, rfl⟩
      · exact hsub z hz
    simp only [List.length_cons, List.length_map, List.length_range] at this
    omega
  · have hnd : (List.map (fun k : Nat => (k : Int)) (List.range m)).Nodup := by
      unfold List.Nodup
      rw [List.pairwise_map]
      exact List.pairwise_lt_range.imp fun hab e => by omega
    have := len_le_of hnd (m := keysOf es) fun z hz => by
      obtain ⟨k, hk2, rfl⟩ := List.mem_map.1 hz
      exact (hk _).2 (ho k (List.mem_range.1 hk2))
    simp only [List.length_map, List.length_range] at this
    omega
theorem fn82 : ctx.fn 82 = some c82 := by kernel_rfl
def CovP (fs : List Int) (n m : Nat) (h f g F G : Nat → Nat) : Prop := Keeps n h f g F G ∧ OntoP fs m
theorem isCovering_ct (hS : OldO S) {r u r2 u2 fs : List Int} {n m : Nat} {f f' g g' F F' G G' h : Nat → Nat} (ho : IsO r u n f f' g g') (ho2 : IsO r2 u2 m F F' G G') (hf : IsF fs n m h) :
    Ct (ctx.plus S) 82 [pO r u, pO r2 u2, pIs fs] (3 + 5 * n) fun v => (CovP fs n m h f g F G ∧ v = .bool true) ∨ (¬ CovP fs n m h f g F G ∧ v = .bool false) := by
  have hfl : fs.length = n := by rw [hf.eq, PL_len]
  have hget : ∀ i, i < n → fs[i]? = some (h i : Int) := fun i hi => by rw [hf.eq, PL_get hi]
  have hn := ho.le
  have hm := ho2.le
  have hin : InB fs m := fun x hx => by
    rw [hf.eq] at hx
    obtain ⟨i, hi, rfl⟩ := List.mem_map.1 hx
    have := hf.lt i (List.mem_range.1 hi)
    omega
  refine ct_of (hS 82 (by decide)) fn82 ?_
  refine ⟨by omega, by omega, ?_⟩
  refine ⟨by omega, ?_⟩
  refine ⟨fun q s => ∃ (i b : Nat) (es : List (Int × PV)) (τ : List StB) (T : List PV), s = ⟨T, [.live 24 [pIs r, pIs u], .live 24 [pIs r2, pIs u2], .mp .i64 es] ++ τ, b⟩ ∧ Gt T 49 [(2, pIs fs), (3, .optr 0 0), (4, .optr 1 0), (7, .omap 2), (14, pIs fs), (15, pn fs.length), (16, pn i)] ∧ q = n - i ∧ i ≤ n ∧ b ≤ 3 + 5 * i ∧ Hid (Cov fs i es ∧ Keeps i h f g F G), ⟨_, ci ⟨0, 3, [], [], _, rfl, ⟨rfl, rfl, rfl, rfl, rfl, rfl, rfl, rfl, trivial⟩, rfl, Nat.zero_le _, by omega, ⟨⟨List.nodup_nil, fun y => by simp [keysOf]⟩, fun x hx => by omega⟩⟩⟩, ?_⟩
  rintro _ s ⟨i, b, es, τ, T, rfl, hT, rfl, hi, hb, hh⟩
  obtain ⟨J, rfl⟩ := gt_open hT
  clear hT
  refine ⟨fun hlt => ?_, fun hge => ?_⟩
  · have hin' : i < n := by omega
    have he := hget i hin'
    have hhi := hf.lt i hin'
    refine ⟨⟨⟨by omega, by omega⟩, len_map_le (by omega)⟩, ?_⟩
    refine ⟨_, ld (at_map he) (by show _ * 1 = i; omega), ?_⟩
    refine ⟨es, _, ⟨rfl, rfl⟩, rfl, _, rfl, ?_⟩
    refine ⟨_, rfl, ?_⟩
    refine callq rfl (neighbours_ct S hS ho2 hhi) (by omega) ?_
    rintro _ rfl
    refine ⟨by omega, ?_⟩
    refine ⟨_, _, push_get, ⟨rfl, Nat.le_refl 2, rfl⟩, _, rfl, _, push_set, ?_⟩
    refine ⟨_, rfl, ?_⟩
    refine callq rfl (neighbours_ct S hS ho hin') (by omega) ?_
    rintro _ rfl
    refine ⟨fun q s => ∃ (k L b' : Nat) (σ' τ' : List StB) (T : List PV), s = ⟨T, σ', b'⟩ ∧ Gt T 49 [(2, pIs fs), (3, .optr 0 0), (4, .optr 1 0), (7, .omap 2), (8, pn i), (10, .optr L 0), (14, pIs fs), (15, pn fs.length), (16, pn i), (28, .agg [pn (f i), pn (g i)]), (29, pn k)] ∧ q = 2 - k ∧ k ≤ 2 ∧ b' ≤ 3 + 5 * (i + 1) ∧ Hid (σ' = [.live 24 [pIs r, pIs u], .live 24 [pIs r2, pIs u2], .mp .i64 (pmapSet es (h i) (.bool true))] ++ τ' ∧ σ'[L]? = some (.live 107 [pn (F (h i)), pn (G (h i))]) ∧ (0 < k → h (f i) = F (h i)) ∧ (1 < k → h (g i) = G (h i))), ⟨_, ci ⟨0, _, _, _, τ ++ [_], _, rfl, ⟨rfl, rfl, rfl, rfl, rfl, rfl, rfl, rfl, rfl, rfl, rfl, rfl, trivial⟩, rfl, Nat.zero_le _, by omega, ⟨rfl, push_get, fun a => by omega, fun a => by omega⟩⟩⟩, ?_⟩
    rintro _ s ⟨k, L, b', σ', τ', T, rfl, hT, rfl, hk, hb', hi2⟩
    obtain ⟨J, rfl⟩ := gt_open hT
    clear hT
    obtain ⟨e1, e2, e3, e4⟩ := hi2.h
    clear hi2
    subst e1
    refine ⟨fun hlt2 => ?_, fun hge2 => ?_⟩
    · have hne : CovP fs n m h f g F G → Keeps n h f g F G := fun h => h.1
      have hk2 : k = 0 ∨ k = 1 := by omega
      rcases hk2 with rfl | rfl
      · have hfi := ho.pr.lt i hin'
        refine ⟨⟨by omega, by omega⟩, _, rfl, ?_⟩
        refine ⟨by kernel_rfl, ?_⟩
        refine ⟨⟨⟨by omega, by omega⟩, len_map_le (by omega)⟩, ?_⟩
        refine ⟨_, ld (at_map (hget (f i) hfi)) (by show _ * 1 = f i; omega), rfl, ?_⟩
        refine ⟨⟨by omega, by omega⟩, ?_⟩
        refine ⟨_, load_k rfl rfl (contOf_live e2) (show [pn (F (h i)), pn (G (h i))][0]? = some (pn (F (h i))) from rfl) (by rfl), rfl, ?_⟩
        refine ⟨fun hbad => ?_, fun hgood => ?_⟩
        · exact endq rfl (.inr ⟨fun hc => hbad (by have := (hc.1 i hin').1; omega), rfl⟩)
        · refine ⟨⟨by omega, by omega⟩, ?_⟩
          exact ⟨_, by omega, ci ⟨1, L, b', _, τ', _, rfl, ⟨rfl, rfl, rfl, rfl, rfl, rfl, rfl, rfl, rfl, rfl, rfl, rfl, trivial⟩, rfl, by omega, by omega, ⟨rfl, e2, fun _ => by omega, fun a => by omega⟩⟩⟩
      · have hgi := ho.pu.lt i hin'
        refine ⟨⟨by omega, by omega⟩, _, rfl, ?_⟩
        refine ⟨by kernel_rfl, ?_⟩
        refine ⟨⟨⟨by omega, by omega⟩, len_map_le (by omega)⟩, ?_⟩
        refine ⟨_, ld (at_map (hget (g i) hgi)) (by show _ * 1 = g i; omega), rfl, ?_⟩
        refine ⟨⟨by omega, by omega⟩, ?_⟩
        refine ⟨_, load_k rfl rfl (contOf_live e2) (show [pn (F (h i)), pn (G (h i))][1]? = some (pn (G (h i))) from rfl) (by rfl), rfl, ?_⟩
        refine ⟨fun hbad => ?_, fun hgood => ?_⟩
        · exact endq rfl (.inr ⟨fun hc => hbad (by have := (hc.1 i hin').2; omega), rfl⟩)
        · refine ⟨⟨by omega, by omega⟩, ?_⟩
          exact ⟨_, by omega, ci ⟨2, L, b', _, τ', _, rfl, ⟨rfl, rfl, rfl, rfl, rfl, rfl, rfl, rfl, rfl, rfl, rfl, rfl, trivial⟩, rfl, by omega, by omega, ⟨rfl, e2, fun _ => e3 (by omega), fun _ => by omega⟩⟩⟩
    · refine ⟨⟨by omega, by omega⟩, ?_⟩
      exact ⟨_, by omega, ci ⟨i + 1, b', _, τ', _, rfl, ⟨rfl, rfl, rfl, rfl, rfl, rfl, rfl, rfl, trivial⟩, rfl, by omega, by omega, ⟨cov_next hh.h.1 he, fun x hx => by
        by_cases hxi : x = i
        · subst hxi; exact ⟨e3 (by omega), e4 (by omega)⟩
        · exact hh.h.2 x (by omega)⟩⟩⟩
  · have hin' : i = n := by omega
    subst hin'
    obtain ⟨c1, c2⟩ := cov_len (by rw [hfl]; exact hh.h.1) hin
    refine ⟨.i64, es, rfl, by omega, ?_⟩
    refine ⟨_, rfl, ?_⟩
    have hrl := ho2.l1.1
    refine ⟨fun heq => ?_, fun hne => ?_⟩
    · exact endq rfl (.inl ⟨⟨hh.h.2, c1.1 (by omega)⟩, rfl⟩)
    · exact endq rfl (.inr ⟨fun hc => hne (by have := c1.2 hc.2; omega), rfl⟩)
end Go.PI
/- COVERINGS: the checks whole; the law of proofs. -/
open Go.Proofs
namespace Go.PI
open IM
set_option maxRecDepth 10000
set_option maxHeartbeats 4000000
variable (S : FuncId → Option (List AV → Heap → Option (AV × Heap)))
theorem PL_getD {n : Nat} {f : Nat → Nat} {i : Nat} (h : i < n) : (PL n f).getD i 0 = (f i : Int) := by rw [List.getD_eq_getElem?_getD, PL_get h]; rfl
def CovL (r u r2 u2 fs : List Int) : Prop := (∀ x : Nat, x < r.length → fs.getD (r.getD x 0).toNat 0 = r2.getD (fs.getD x 0).toNat 0 ∧ fs.getD (u.getD x 0).toNat 0 = u2.getD (fs.getD x 0).toNat 0) ∧ OntoP fs r2.length
theorem covL_iff {r u r2 u2 fs : List Int} {n m : Nat} {f f' g g' F F' G G' h : Nat → Nat} (ho : IsO r u n f f' g g') (ho2 : IsO r2 u2 m F F' G G') (hf : IsF fs n m h) : CovL r u r2 u2 fs ↔ CovP fs n m h f g F G := by
  have l1 := ho.l1.1
  have l2 := ho2.l1.1
  unfold CovL CovP
  rw [l2]
  refine and_congr ?_ Iff.rfl
  rw [l1]
  have key : ∀ x, x < n → (fs.getD (r.getD x 0).toNat 0 = r2.getD (fs.getD x 0).toNat 0 ∧ fs.getD (u.getD x 0).toNat 0 = u2.getD (fs.getD x 0).toNat 0 ↔ h (f x) = F (h x) ∧ h (g x) = G (h x)) := fun x hx => by
    have a := ho.pr.lt x hx
    have b := ho.pu.lt x hx
    have c := hf.lt x hx
    rw [ho.hr, ho.hu, ho2.hr, ho2.hu, hf.eq, PL_getD hx, PL_getD hx, PL_getD hx, Int.toNat_natCast, Int.toNat_natCast, Int.toNat_natCast, PL_getD a, PL_getD b, PL_getD c, PL_getD c]
    omega
  exact ⟨fun h x hx => (key x hx).1 (h x hx), fun h x hx => (key x hx).2 (h x hx)⟩
open Classical in
noncomputable def chkM (r u r2 u2 fs : List Int) (same : Bool) : Int :=
  if chkA [(r, u), (r2, u2)] ≠ 0 then chkA [(r, u), (r2, u2)] else if fs.length ≠ r.length ∨ (same = true ∧ r.length ≠ r2.length) then 10 else if ¬ InB fs r2.length then 2 else if CovL r u r2 u2 fs then 0 else 18
section
variable {r u r2 u2 fs : List Int} {same : Bool}
theorem chkM_a (h : chkA [(r, u), (r2, u2)] ≠ 0) : chkM r u r2 u2 fs same = chkA [(r, u), (r2, u2)] := by unfold chkM; rw [if_pos h]
theorem chkM_10 (h : chkA [(r, u), (r2, u2)] = 0) (h2 : fs.length ≠ r.length ∨ (same = true ∧ r.length ≠ r2.length)) : chkM r u r2 u2 fs same = 10 := by unfold chkM; rw [if_neg (fun e => e h), if_pos h2]
theorem chkM_2 (h : chkA [(r, u), (r2, u2)] = 0) (h2 : ¬ (fs.length ≠ r.length ∨ (same = true ∧ r.length ≠ r2.length))) (h3 : ¬ InB fs r2.length) : chkM r u r2 u2 fs same = 2 := by unfold chkM; rw [if_neg (fun e => e h), if_neg h2, if_pos h3]
theorem chkM_0 (h : chkA [(r, u), (r2, u2)] = 0) (h2 : ¬ (fs.length ≠ r.length ∨ (same = true ∧ r.length ≠ r2.length))) (h3 : InB fs r2.length) (h4 : CovL r u r2 u2 fs) : chkM r u r2 u2 fs same = 0 := by unfold chkM; rw [if_neg (fun e => e h), if_neg h2, if_neg (fun e => e h3), if_pos h4]
theorem chkM_18 (h : chkA [(r, u), (r2, u2)] = 0) (h2 : ¬ (fs.length ≠ r.length ∨ (same = true ∧ r.length ≠ r2.length))) (h3 : InB fs r2.length) (h4 : ¬ CovL r u r2 u2 fs) : chkM r u r2 u2 fs same = 18 := by unfold chkM; rw [if_neg (fun e => e h), if_neg h2, if_neg (fun e => e h3), if_neg h4]
theorem chkA_two : chkA [(r, u), (r2, u2)] = 0 ↔ chkO r u = 0 ∧ chkO r2 u2 = 0 := by
  show (if chkO r u ≠ 0 then chkO r u else chkA [(r2, u2)]) = 0 ↔ _
  rw [chkA_one]
  by_cases h : chkO r u = 0
  · rw [if_neg (fun e => e h)]; simp [h]
  · rw [if_pos h]; simp [h]
theorem chkA_valid (h : chkA [(r, u), (r2, u2)] = 0) : ∃ n m f f' g g' F F' G G', IsO r u n f f' g g' ∧ IsO r2 u2 m F F' G G' := by
  obtain ⟨a, b⟩ := chkA_two.1 h
  obtain ⟨n, f, f', g, g', ho⟩ := chkO_ok a
  obtain ⟨m, F, F', G, G', ho2⟩ := chkO_ok b
  exact ⟨n, m, f, f', g, g', F, F', G, G', ho, ho2⟩
end
theorem check2_ct (hS : OldO S) {r u r2 u2 : List Int} (l1 : r.length ≤ 1000000) (l2 : u.length ≤ 1000000) (l3 : r2.length ≤ 1000000) (l4 : u2.length ≤ 1000000) : Ct (ctx.plus S) 63 [pOs [(r, u), (r2, u2)]] 12 fun v => v = pn (chkA [(r, u), (r2, u2)]) :=
  checkAll_ct S hS (L := [(r, u), (r2, u2)]) (by simp) (fun p hp => by
    rcases List.mem_cons.1 hp with rfl | hp
    · exact ⟨l1, l2⟩
    · rw [List.mem_singleton.1 hp]; exact ⟨l3, l4⟩)
theorem fn38 : ctx.fn 38 = some c38 := by kernel_rfl
theorem checkCov_ct (hS : OldO S) {r u r2 u2 fs : List Int} (l1 : r.length ≤ 1000000) (l2 : u.length ≤ 1000000) (l3 : r2.length ≤ 1000000) (l4 : u2.length ≤ 1000000) (l5 : fs.length ≤ 1000000) : Ct (ctx.plus S) 38 [pO r u, pO r2 u2, pIs fs] 400 fun v => v = pn (chkM r u r2 u2 fs false) := by
  refine ct_of (hS 38 (by decide)) fn38 ?_
  refine ⟨by omega, by omega, ?_⟩
  refine ⟨_, rfl, ?_⟩
  refine ⟨_, rfl, ?_⟩
  refine ⟨by omega, partc rfl ⟨_, rfl, ?_⟩⟩
  refine cal1 (fz_own (ty := 24) rfl (Nat.le_refl 4) (Nat.le_refl _) rfl) (check2_ct S hS l1 l2 l3 l4) (by omega) ?_
  rintro _ rfl
  refine ⟨fun h0 => ?_, fun h0 => ?_⟩
  · exact endq rfl (by rw [chkM_a h0])
  refine ⟨_, rfl, ?_⟩
  refine ⟨fun h1 => ?_, fun h1 => ?_⟩
  · exact endq rfl (by rw [chkM_10 h0 (.inl (by omega))])
  have h2 : ¬ (fs.length ≠ r.length ∨ (false = true ∧ r.length ≠ r2.length)) := by simp; omega
  refine ⟨_, rfl, ?_⟩
  refine callq rfl (areSquares_ct S hS l5 l3) (by omega) ?_
  rintro _ (⟨h3, rfl⟩ | ⟨h3, rfl⟩)
  · obtain ⟨n, m, f, f', g, g', F, F', G, G', ho, ho2⟩ := chkA_valid h0
    have e1 := ho.l1.1
    have e2 := ho2.l1.1
    have hn := ho.le
    rw [e2] at h3
    obtain ⟨h, hf⟩ := isF_of (show fs.length = n by omega) h3
    have hiff := covL_iff ho ho2 hf
    refine ⟨_, rfl, ?_⟩
    refine ⟨_, rfl, ?_⟩
    refine callq rfl (isCovering_ct S hS ho ho2 hf) (by omega) ?_
    rintro _ (⟨h4, rfl⟩ | ⟨h4, rfl⟩)
    · exact endq rfl (by rw [chkM_0 h0 h2 (by rw [e2]; exact h3) (hiff.2 h4)])
    · exact endq rfl (by rw [chkM_18 h0 h2 (by rw [e2]; exact h3) (fun h => h4 (hiff.1 h))])
  · exact endq rfl (by rw [chkM_2 h0 h2 h3])
theorem fn35 : ctx.fn 35 = some c35 := by kernel_rfl
theorem size_ct (hS : OldO S) {r u : List Int} : Ct (ctx.plus S) 35 [pO r u] 1 fun v => v = pn r.length := by
  refine ct_of (hS 35 (by decide)) fn35 ?_
  refine ⟨by omega, ?_⟩
  refine ⟨_, rfl, ?_⟩
  exact endq rfl rfl
theorem fn79 : ctx.fn 79 = some c79 := by kernel_rfl
theorem isMap_ct (hS : OldO S) {r u r2 u2 fs : List Int} {n m : Nat} {f f' g g' F F' G G' h : Nat → Nat} (ho : IsO r u n f f' g g') (ho2 : IsO r2 u2 m F F' G G') (hf : IsF fs n m h) :
    Ct (ctx.plus S) 79 [pO r u, pO r2 u2, pIs fs] 100 fun v => (Keeps n h f g F G ∧ v = .bool true) ∨ (¬ Keeps n h f g F G ∧ v = .bool false) := by
  have hfl : fs.length = n := by rw [hf.eq, PL_len]
  have hget : ∀ i, i < n → fs[i]? = some (h i : Int) := fun i hi => by rw [hf.eq, PL_get hi]
  have hn := ho.le
  have hm := ho2.le
  obtain ⟨a1, a2⟩ := ho.l1
  obtain ⟨a3, a4⟩ := ho2.l1
  have gr : ∀ i, i < n → r[i]? = some (f i : Int) := fun i hi => by rw [ho.hr, PL_get hi]
  have gu : ∀ i, i < n → u[i]? = some (g i : Int) := fun i hi => by rw [ho.hu, PL_get hi]
  have gr2 : ∀ i, i < m → r2[i]? = some (F i : Int) := fun i hi => by rw [ho2.hr, PL_get hi]
  have gu2 : ∀ i, i < m → u2[i]? = some (G i : Int) := fun i hi => by rw [ho2.hu, PL_get hi]
  refine ct_of (hS 79 (by decide)) fn79 ?_
  refine ⟨by omega, by omega, ?_⟩
  refine ⟨fun q s => ∃ (i : Nat) (T : List PV), s = ⟨T, [.live 24 [pIs r, pIs u], .live 24 [pIs r2, pIs u2]], 2 + i⟩ ∧ Gt T 50 [(2, pIs fs), (3, .optr 0 0), (4, .optr 1 0), (7, pn i)] ∧ q = n - i ∧ i ≤ n ∧ Hid (Keeps i h f g F G), ⟨_, ci ⟨0, _, rfl, ⟨rfl, rfl, rfl, rfl, rfl, trivial⟩, rfl, Nat.zero_le _, ⟨fun x hx => by omega⟩⟩⟩, ?_⟩
  rintro _ s ⟨i, T, rfl, hT, rfl, hi, hk⟩
  obtain ⟨J, rfl⟩ := gt_open hT
  clear hT
  refine ⟨_, rfl, ?_⟩
  refine callq rfl (size_ct S hS) (by omega) ?_
  rintro _ rfl
  refine ⟨fun hlt => ?_, fun hge => ?_⟩
  · have hin : i < n := by omega
    have c1 := ho.pr.lt i hin
    have c2 := ho.pu.lt i hin
    have c3 := hf.lt i hin
    refine ⟨by kernel_rfl, ?_⟩
    refine ⟨_, rfl, rfl, ?_⟩
    refine ⟨⟨⟨by omega, by omega⟩, len_map_le (by omega)⟩, ?_⟩
    refine ⟨_, ld (at_map (gr i hin)) (by show _ * 1 = i; omega), rfl, ?_⟩
    refine ⟨⟨⟨by omega, by omega⟩, len_map_le (by omega)⟩, ?_⟩
    refine ⟨_, ld (at_map (hget (f i) c1)) (by show _ * 1 = f i; omega), rfl, ?_⟩
    refine ⟨_, rfl, rfl, ?_⟩
    refine ⟨⟨⟨by omega, by omega⟩, len_map_le (by omega)⟩, ?_⟩
    refine ⟨_, ld (at_map (hget i hin)) (by show _ * 1 = i; omega), rfl, ?_⟩
    refine ⟨⟨⟨by omega, by omega⟩, len_map_le (by omega)⟩, ?_⟩
    refine ⟨_, ld (at_map (gr2 (h i) c3)) (by show _ * 1 = h i; omega), rfl, ?_⟩
    refine ⟨fun h1 => ?_, fun h1 => ?_⟩
    · exact endq rfl (.inr ⟨fun hc => h1 (by have := (hc i hin).1; omega), rfl⟩)
    refine ⟨_, rfl, rfl, ?_⟩
    refine ⟨⟨⟨by omega, by omega⟩, len_map_le (by omega)⟩, ?_⟩
    refine ⟨_, ld (at_map (gu i hin)) (by show _ * 1 = i; omega), rfl, ?_⟩
    refine ⟨⟨⟨by omega, by omega⟩, len_map_le (by omega)⟩, ?_⟩
    refine ⟨_, ld (at_map (hget (g i) c2)) (by show _ * 1 = g i; omega), rfl, ?_⟩
    refine ⟨_, rfl, rfl, ?_⟩
    refine ⟨⟨⟨by omega, by omega⟩, len_map_le (by omega)⟩, ?_⟩
    refine ⟨_, ld (at_map (hget i hin)) (by show _ * 1 = i; omega), rfl, ?_⟩
    refine ⟨⟨⟨by omega, by omega⟩, len_map_le (by omega)⟩, ?_⟩
    refine ⟨_, ld (at_map (gu2 (h i) c3)) (by show _ * 1 = h i; omega), rfl, ?_⟩
    refine ⟨fun h2 => ?_, fun h2 => ?_⟩
    · exact endq rfl (.inr ⟨fun hc => h2 (by have := (hc i hin).2; omega), rfl⟩)
    refine ⟨⟨by omega, by omega⟩, ?_⟩
    exact ⟨_, by omega, ci ⟨i + 1, _, rfl, ⟨rfl, rfl, rfl, rfl, rfl, trivial⟩, rfl, by omega, ⟨fun x hx => by
      by_cases hxi : x = i
      · subst hxi; omega
      · exact hk.h x (by omega)⟩⟩⟩
  · have hin : i = n := by omega
    subst hin
    exact endq rfl (.inl ⟨hk.h, rfl⟩)
end Go.PI
/- NUMBERINGS of squares, in a store of our own. -/
open Go.Proofs
namespace Go.PI
open IM
set_option maxRecDepth 10000
set_option maxHeartbeats 4000000
variable (S : FuncId → Option (List AV → Heap → Option (AV × Heap)))
def pnn (i : Nat) : PV := pn (i : Int)
def Onum : Opn := ⟨fun t => Nat.beq t 116, fun t => Nat.beq t 116 || Nat.beq t 22, false⟩
structure Num (σ : List StB) (j m : Nat) (v : PV) (xs : List Nat) : Prop where
  liv : σ[j]? = some (.liv 116 [v, .omap m])
  gr : Gr pnn 3 v σ xs
  mp : ∃ es, σ[m]? = some (.mp .i64 es) ∧ ∀ y : Nat, pmapGet es y = if y ∈ xs then some (pnn (xs.idxOf y)) else none
  ne : xs ≠ []
  jv : blkOf v ≠ some j
  mv : blkOf v ≠ some m
  jm : m ≠ j
  lv : ∃ jv, blkOf v = some jv ∧ σ[jv]? = some (.live 3 (xs.map pnn))
structure NF (σ σ' : List StB) (j m : Nat) (v v' : PV) : Prop where
  len : σ.length ≤ σ'.length
  keep : ∀ (i : Nat) (b : StB), i ≠ j → i ≠ m → blkOf v ≠ some i → σ[i]? = some b → σ'[i]? = some b
  blk : ∀ i, i < σ.length → blkOf v ≠ some i → blkOf v' ≠ some i
theorem NF.refl (σ : List StB) (j m : Nat) (v : PV) : NF σ σ j m v v := ⟨Nat.le_refl _, fun _ _ _ _ _ h => h, fun _ _ h => h⟩
theorem NF.trans {σ σ' σ'' : List StB} {j m : Nat} {v v' v'' : PV} (a : NF σ σ' j m v v') (b : NF σ' σ'' j m v' v'') : NF σ σ'' j m v v'' :=
  ⟨Nat.le_trans a.len b.len, fun i x h1 h2 h3 h4 => b.keep i x h1 h2 (a.blk i (List.getElem?_eq_some_iff.1 h4).1 h3) (a.keep i x h1 h2 h3 h4), fun i hi h => b.blk i (Nat.lt_of_lt_of_le hi a.len) (a.blk i hi h)⟩
theorem Gr.shape {α : Type} {f : α → PV} {e : TypeId} {v : PV} {σ : List StB} {Xs : List α} (h : Gr f e v σ Xs) (hne : Xs ≠ []) : ∃ jv ty, contOf σ jv = some (ty, Xs.map f) ∧ (v = .own jv 0 Xs.length Xs.length 1 ∨ v = .ownu jv Xs.length 1) := by
  rcases h with ⟨-, h⟩ | ⟨j, ty, rfl, h⟩ | ⟨j, rfl, h⟩
  · exact absurd h hne
  · exact ⟨j, ty, h, .inl rfl⟩
  · exact ⟨j, e, contOf_live h, .inr rfl⟩
theorem Gr.cell {α : Type} {f : α → PV} {e : TypeId} {v : PV} {σ : List StB} {Xs : List α} (h : Gr f e v σ Xs) : v.pcells = [v] ∧ v.one = true := by
  rcases h with ⟨rfl, h⟩ | ⟨j, ty, rfl, h⟩ | ⟨j, rfl, h⟩ <;> exact ⟨rfl, rfl⟩
theorem get_set_map {es : List (Int × PV)} {n k : Int} {v : PV} : pmapGet (pmapSet es n v) k = if k = n then some v else pmapGet es k := by
  induction es with
  | nil =>
    unfold pmapSet pmapGet
    by_cases h : k = n
    · subst h; simp
    · rw [if_neg h]
      have : (n == k) = false := by simpa using fun e => h e.symm
      rw [this]
      rfl
  | cons e es ih =>
    obtain ⟨k0, x⟩ := e
    unfold pmapSet
    cases hb : k0 == n with
    | true =>
      have : k0 = n := by simpa using hb
      subst this
      show pmapGet ((k0, v) :: es) k = _
      unfold pmapGet
      by_cases h : k = k0
      · subst h; simp
      · have : (k0 == k) = false := by simpa using fun e => h e.symm
        rw [this, if_neg h]
    | false =>
      show pmapGet ((k0, x) :: pmapSet es n v) k = _
      unfold pmapGet
      cases hk : k0 == k with
      | true =>
        have : k0 = k := by simpa using hk
        subst this
        have hne : k0 ≠ n := by simpa using hb
        rw [if_neg hne]
      | false => exact ih
theorem idx_new {xs : List Nat} {x : Nat} (h : x ∉ xs) : (xs ++ [x]).idxOf x = xs.length := by
  rw [List.idxOf_append, if_neg h]; simp
theorem idx_old {xs : List Nat} {x y : Nat} (h : y ∈ xs) : (xs ++ [x]).idxOf y = xs.idxOf y := by rw [List.idxOf_append, if_pos h]
theorem fn106 : ctx.fn 106 = some c106 := by kernel_rfl
theorem numberingFrom_cm (hS : OldO S) {σ : List StB} {x : Nat} : Cm (ctx.plus S) 106 [pnn x] σ 3 fun r σ' => ∃ j m v, r = .optr j 0 ∧ Num σ' j m v [x] ∧ (∀ (i : Nat) (b : StB), σ[i]? = some b → σ'[i]? = some b) ∧ σ.length ≤ j ∧ σ.length ≤ m ∧ (∀ i, i < σ.length → blkOf v ≠ some i) := by
  refine cm_of Onum (hS 106 (by decide)) fn106 fun c k0 hc => ?_
  refine ⟨by omega, part1 fzI ⟨[pnn x], rfl, ?_⟩⟩
  refine ⟨by omega, ?_⟩
  refine ⟨[], _, ⟨rfl, push_get⟩, rfl, _, push_set, ?_⟩
  refine ⟨_, rfl, ?_⟩
  refine ⟨by omega, ?_⟩
  refine endm [] (by dsimp only; omega) ?_
  have l1 : (σ ++ [StB.live 3 [pnn x]]).length = σ.length + 1 := by simp
  have l2 : ∀ B, (σ ++ [StB.live 3 [pnn x]] ++ [B]).length = σ.length + 2 := fun B => by simp
  refine ⟨_, _, _, rfl, ⟨push_get, .inr (.inl ⟨σ.length, 3, rfl, ?_⟩), ⟨[((x : Int), pn 0)], push_old (by exact push_get), fun y => ?_⟩, (by simp), ?_, ?_, ?_, ⟨σ.length, rfl, push_old (push_old push_get)⟩⟩, fun i b hb => push_old (push_old (push_old hb)), ?_, ?_, fun i hi => ?_⟩
  · exact contOf_app (contOf_app push_cont)
  · unfold pmapGet
    by_cases h : x = y
    · subst h; simp [pnn]
    · have : ((x : Int) == (y : Int)) = false := by simp; omega
      rw [this, if_neg (by simp; exact fun e => h e.symm)]
      rfl
  · show some σ.length ≠ some _
    rw [l2]; intro e; have := Option.some.inj e; omega
  · show some σ.length ≠ some _
    rw [l1]; intro e; have := Option.some.inj e; omega
  · rw [l1, l2]; omega
  · rw [l2]; omega
  · rw [l1]; omega
  · show some σ.length ≠ some i
    intro e; have := Option.some.inj e; omega
theorem addL_in {xs : List Nat} {x : Nat} (h : x ∈ xs) : addL xs x = xs := by unfold addL; rw [if_pos h]
theorem addL_out {xs : List Nat} {x : Nat} (h : x ∉ xs) : addL xs x = xs ++ [x] := by unfold addL; rw [if_neg h]
theorem fn107 : ctx.fn 107 = some c107 := by kernel_rfl
theorem number_cm (hS : OldO S) {σ : List StB} {j m : Nat} {v : PV} {xs : List Nat} {x : Nat} (h : Num σ j m v xs) (hl : xs.length ≤ 1000) :
    Cm (ctx.plus S) 107 [.optr j 0, pnn x] σ 4 fun r σ' => ∃ v', r = pnn ((addL xs x).idxOf x) ∧ Num σ' j m v' (addL xs x) ∧ NF σ σ' j m v v' := by
  refine cm_of Onum (hS 107 (by decide)) fn107 fun c k0 hc => ?_
  obtain ⟨es, hes, hget⟩ := h.mp
  refine ⟨_, load_liv h.liv rfl rfl, ?_⟩
  refine ⟨es, ⟨rfl, hes⟩, fun w hw => ?_, fun hw => ?_⟩
  · have hx : x ∈ xs := Classical.byContradiction fun hc => by
      have e := (hget x).symm.trans hw
      rw [if_neg hc] at e; cases e
    have e := (hget x).symm.trans hw
    rw [if_pos hx] at e
    cases e
    exact endm [] (by dsimp only; omega) ⟨v, by rw [addL_in hx]; rfl, by rw [addL_in hx]; exact h, NF.refl _ _ _ _⟩
  · have hx : x ∉ xs := fun hc => by
      have e := (hget x).symm.trans hw
      rw [if_pos hc] at e; cases e
    have hjm : j ≠ m := fun e => h.jm e.symm
    have hjl := (List.getElem?_eq_some_iff.1 h.liv).1
    have hml := (List.getElem?_eq_some_iff.1 hes).1
    have h' := h
    obtain ⟨jv, ty, hcv, hv⟩ := h.gr.shape h.ne
    have key : ∀ (v' : PV) (σ' : List StB), Gr pnn 3 v' σ' (xs ++ [x]) → (∀ i b, blkOf v ≠ some i → (σ ++ [StB.live 3 [pnn x]])[i]? = some b → σ'[i]? = some b) → blkOf v' = some (σ ++ [StB.live 3 [pnn x]]).length → σ'[(σ ++ [StB.live 3 [pnn x]]).length]? = some (.live 3 ((xs ++ [x]).map pnn)) → 
        ∃ v2, pnn xs.length = pnn ((addL xs x).idxOf x) ∧ Num ((σ'.set j (.liv 116 [v', .omap m])).set m (.mp .i64 (pmapSet es x (pnn xs.length)))) j m v2 (addL xs x) ∧ NF σ ((σ'.set j (.liv 116 [v', .omap m])).set m (.mp .i64 (pmapSet es x (pnn xs.length)))) j m v v2 := by
      intro v' σ' hv' hkp hbv hlv
      have hb1 := hv'.blk hbv
      have hl1 : (σ ++ [StB.live 3 [pnn x]]).length = σ.length + 1 := by simp
      rw [hl1] at hbv hb1 hlv
      have hb2 : ∀ i, i ≤ σ.length → blkOf v' ≠ some i := fun i hi e => by
        rw [hbv] at e; have := Option.some.inj e; omega
      refine ⟨v', by rw [addL_out hx, idx_new hx], ⟨?_, ?_, ⟨pmapSet es x (pnn xs.length), ?_, fun y => ?_⟩, ?_, ?_, ?_, h.jm, ⟨σ.length + 1, hbv, by rw [List.getElem?_set_ne (by omega), List.getElem?_set_ne (by omega), addL_out hx]; exact hlv⟩⟩, ⟨?_, fun i b h1 h2 h3 h4 => ?_, fun i hi _ => hb2 i (by omega)⟩⟩
      · rw [List.getElem?_set_ne h.jm, List.getElem?_set_self (by omega)]
      · rw [addL_out hx]
        refine hv'.keep fun i b hi hb => ?_
        rw [hbv] at hi
        have := Option.some.inj hi
        rw [List.getElem?_set_ne (by omega), List.getElem?_set_ne (by omega)]
        exact hb
      · rw [List.getElem?_set_self (by rw [List.length_set]; omega)]
      · rw [get_set_map, addL_out hx]
        by_cases hy : (y : Int) = x
        · have : y = x := by omega
          subst this
          rw [if_pos rfl, if_pos (by simp), idx_new hx]
        · have hne : y ≠ x := by omega
          rw [if_neg hy, hget]
          by_cases hm : y ∈ xs
          · rw [if_pos hm, if_pos (by simp [hm]), idx_old hm]
          · rw [if_neg hm, if_neg (by simp [hm, hne])]
      · rw [addL_out hx]; simp
      · exact hb2 j (by omega)
      · exact hb2 m (by omega)
      · rw [List.length_set, List.length_set]; omega
      · rw [List.getElem?_set_ne (Ne.symm h2), List.getElem?_set_ne (Ne.symm h1)]
        exact hkp i b h3 (push_old h4)
    rcases hv with rfl | rfl
    all_goals
      refine ⟨_, load_liv h.liv rfl rfl, ?_⟩
      refine ⟨_, load_liv h.liv rfl rfl, ?_⟩
      refine ⟨by omega, part1 fzI ⟨[pnn x], rfl, ?_⟩⟩
      refine appGu (f := pnn) (e := 3) (y := x) h.gr.push push_cont rfl rfl rfl rfl (by kernel_rfl) rfl rfl (by omega) (by omega) fun σ' hlv hkp => ?_
      obtain ⟨v', hvd⟩ : ∃ v', PV.ownu (σ ++ [StB.live 3 [pnn x]]).length (xs ++ [x]).length 1 = v' := ⟨_, rfl⟩
      have hv' : Gr pnn 3 v' σ' (xs ++ [x]) := .inr (.inr ⟨_, hvd.symm, hlv⟩)
      have hbv' : blkOf v' = some (σ ++ [StB.live 3 [pnn x]]).length := by rw [← hvd]; rfl
      rw [hvd]
      have hpc := hv'.cell
      refine ⟨_, _, hkp j _ h.jv (push_old h.liv), ⟨by rw [hpc.1]; rfl, Nat.le_of_ble_eq_true rfl, by rw [hpc.1]; show (v'.one && true) = true; rw [hpc.2]; rfl⟩, [v', .omap m], by rw [hpc.1]; rfl, _, rfl, ?_⟩
      have hj' : j < σ'.length := (List.getElem?_eq_some_iff.1 (hkp j _ h.jv (push_old h.liv))).1
      refine ⟨_, load_liv (List.getElem?_set_self hj') rfl rfl, ?_⟩
      refine ⟨es, _, ⟨rfl, by rw [List.getElem?_set_ne hjm]; exact hkp m _ h.mv (push_old hes)⟩, rfl, _, rfl, ?_⟩
      exact endm [] (by dsimp only; omega) (key v' σ' hv' hkp hbv' hlv)
end Go.PI
/- NUMBERINGS: the squares around one. -/
open Go.Proofs
namespace Go.PI
open IM
set_option maxRecDepth 10000
set_option maxHeartbeats 4000000
variable (S : FuncId → Option (List AV → Heap → Option (AV × Heap)))
theorem Num.push {σ : List StB} {j m : Nat} {v : PV} {xs : List Nat} {b : StB} (h : Num σ j m v xs) : Num (σ ++ [b]) j m v xs := by
  obtain ⟨es, hes, hg⟩ := h.mp
  obtain ⟨jv, hj, hl⟩ := h.lv
  exact ⟨push_old h.liv, h.gr.push, ⟨es, push_old hes, hg⟩, h.ne, h.jv, h.mv, h.jm, ⟨jv, hj, push_old hl⟩⟩
theorem Num.keep {σ σ' : List StB} {j m : Nat} {v : PV} {xs : List Nat} (h : Num σ j m v xs) (k : ∀ i b, (i = j ∨ i = m ∨ blkOf v = some i) → σ[i]? = some b → σ'[i]? = some b) : Num σ' j m v xs := by
  obtain ⟨es, hes, hg⟩ := h.mp
  exact ⟨k j _ (.inl rfl) h.liv, h.gr.keep fun i b hi hb => k i b (.inr (.inr hi)) hb, ⟨es, k m _ (.inr (.inl rfl)) hes, hg⟩, h.ne, h.jv, h.mv, h.jm, h.lv.imp fun jv hj => ⟨hj.1, k jv _ (.inr (.inr hj.1)) hj.2⟩⟩
theorem Num.jl {σ : List StB} {j m : Nat} {v : PV} {xs : List Nat} (h : Num σ j m v xs) : j < σ.length := (List.getElem?_eq_some_iff.1 h.liv).1
theorem Num.ml {σ : List StB} {j m : Nat} {v : PV} {xs : List Nat} (h : Num σ j m v xs) : m < σ.length := by
  obtain ⟨es, hes, hg⟩ := h.mp
  exact (List.getElem?_eq_some_iff.1 hes).1
theorem NF.push {σ : List StB} {j m : Nat} {v : PV} {b : StB} : NF σ (σ ++ [b]) j m v v := ⟨by simp, fun i b _ _ _ h => push_old h, fun _ _ h => h⟩
theorem addL_idx {xs : List Nat} {x y : Nat} (h : y ∈ xs) : (addL xs x).idxOf y = xs.idxOf y := by
  unfold addL
  by_cases hx : x ∈ xs
  · rw [if_pos hx]
  · rw [if_neg hx, idx_old h]
theorem addL_self {xs : List Nat} {x : Nat} : x ∈ addL xs x := addL_mem.2 (.inr rfl)
theorem addL_len {xs : List Nat} {x : Nat} : (addL xs x).length ≤ xs.length + 1 := by
  unfold addL
  by_cases hx : x ∈ xs
  · rw [if_pos hx]; omega
  · rw [if_neg hx]; simp
theorem load_c {C : Ctx} {σ : List StB} {j o : Nat} {t t' : TypeId} {i : TI} {cs : List PV} {v : PV} (hc : contOf σ j = some (t', cs)) (hi : C.ty t = some i) (hv : partP i cs o = some v) : ploadE C σ t (.optr j o) = some v := by
  unfold ploadE
  rw [hi]
  simp only [hc]
  exact hv
theorem NF.set {σ σ' : List StB} {j m L : Nat} {v v' : PV} {b : StB} (h : NF σ σ' j m v v') (hL : σ.length ≤ L) : NF σ (σ'.set L b) j m v v' :=
  ⟨by rw [List.length_set]; exact h.len, fun i b h1 h2 h3 h4 => by
    have := (List.getElem?_eq_some_iff.1 h4).1
    rw [List.getElem?_set_ne (by omega)]; exact h.keep i b h1 h2 h3 h4, h.blk⟩
theorem Num.set {σ : List StB} {j m L : Nat} {v : PV} {xs : List Nat} {b : StB} (h : Num σ j m v xs) (h1 : L ≠ j) (h2 : L ≠ m) (h3 : blkOf v ≠ some L) : Num (σ.set L b) j m v xs :=
  h.keep fun i b hi hb => by
    rw [List.getElem?_set_ne (fun e => by subst e; rcases hi with h | h | h; exact h1 h; exact h2 h; exact h3 h)]; exact hb
theorem fn109 : ctx.fn 109 = some c109 := by kernel_rfl
theorem around_cm (hS : OldO S) {σ : List StB} {j m : Nat} {v : PV} {xs : List Nat} {r u : List Int} {n i x : Nat} {f f' g g' : Nat → Nat} (ho : IsO r u n f f' g g') (h : Num σ j m v xs) (hl : xs.length ≤ 900) (hi : xs[i]? = some x) (hx : x < n) :
    Cm (ctx.plus S) 109 [.optr j 0, pO r u, pn i] σ 20 fun w σ' => ∃ v', w = .agg [pnn ((addL (addL xs (f x)) (g x)).idxOf (f x)), pnn ((addL (addL xs (f x)) (g x)).idxOf (g x))] ∧ Num σ' j m v' (addL (addL xs (f x)) (g x)) ∧ NF σ σ' j m v v' := by
  refine cm_of Onum (hS 109 (by decide)) fn109 fun c k0 hc => ?_
  have hn := ho.le
  have hil := (List.getElem?_eq_some_iff.1 hi).1
  obtain ⟨jv, ty, hcv, hv⟩ := h.gr.shape h.ne
  have hjv : blkOf v = some jv := by rcases hv with rfl | rfl <;> rfl
  have hjvl := contOf_lt hcv
  have hjl := h.jl
  have hml := h.ml
  refine ⟨by omega, by omega, ?_⟩
  refine ⟨by omega, ?_⟩
  refine ⟨by kernel_rfl, ?_⟩
  refine ⟨_, load_c (contOf_app (contOf_app push_cont)) rfl rfl, rfl, ?_⟩
  have hliv := h.liv
  rcases hv with hv | hv
  all_goals
    rw [hv] at hliv
    refine ⟨_, load_liv (push_old (push_old (push_old hliv))) rfl rfl, ?_⟩
    refine ⟨rfl, ?_⟩
    refine ⟨⟨by omega, by omega⟩, ?_⟩
    refine ⟨_, load_k rfl rfl (contOf_app (contOf_app (contOf_app hcv))) (at_map hi) (by show 0 + _ * 1 = i; omega), rfl, ?_⟩
    refine callq rfl (neighbours_ct S hS ho hx) (by omega) ?_
    rintro _ rfl
    obtain ⟨a, ha⟩ : ∃ a : Nat, (addL (addL xs (f x)) (g x)).idxOf (f x) = a := ⟨_, rfl⟩
    obtain ⟨b, hb⟩ : ∃ b : Nat, (addL (addL xs (f x)) (g x)).idxOf (g x) = b := ⟨_, rfl⟩
    rw [ha, hb]
    have ha1 : (addL xs (f x)).idxOf (f x) = a := by rw [← ha, addL_idx addL_self]
    refine ⟨fun q s => ∃ (k k' L6 L7 : Nat) (v' : PV) (σ' : List StB) (T : List PV), s = ⟨T, σ', k'⟩ ∧ Gt T 30 [(0, .optr j 0), (6, .optr L6 0), (7, .optr L7 0), (18, .agg [pnn (f x), pnn (g x)]), (19, pn k)] ∧ q = 2 - k ∧ k ≤ 2 ∧ k' ≤ k0 + 6 + 5 * k ∧ Hid (σ.length ≤ L6 ∧ L6 < L7 ∧ L7 < σ'.length ∧ blkOf v' ≠ some L6 ∧ blkOf v' ≠ some L7 ∧ NF σ σ' j m v v' ∧ σ'[L6]? = some (.live 107 [pn 0, pn 0]) ∧
      ((k = 0 ∧ Num σ' j m v' xs ∧ σ'[L7]? = some (.live 107 [pn 0, pn 0])) ∨ (k = 1 ∧ Num σ' j m v' (addL xs (f x)) ∧ σ'[L7]? = some (.live 107 [pnn a, pn 0])) ∨ (k = 2 ∧ Num σ' j m v' (addL (addL xs (f x)) (g x)) ∧ σ'[L7]? = some (.live 107 [pnn a, pnn b])))), ⟨_, ci ⟨0, _, _, _, v, _, _, rfl, ⟨rfl, rfl, rfl, rfl, rfl, rfl, trivial⟩, rfl, Nat.zero_le _, by omega, ⟨?_, ?_, ?_, ?_, ?_, ?_, ?_, .inl ⟨rfl, h.push.push.push, push_get⟩⟩⟩⟩, ?_⟩
    · simp
    · simp
    · simp
    · rw [hjv]; simp; omega
    · rw [hjv]; simp; omega
    · exact NF.push.trans (NF.push.trans NF.push)
    · exact push_old push_get
    rintro _ s ⟨k, k', L6, L7, v', σ', T, rfl, hT, rfl, hk, hk', hh⟩
    obtain ⟨J, rfl⟩ := gt_open hT
    clear hT
    obtain ⟨c1, c2, c3, c4, c5, c6, c7, c8⟩ := hh.h
    clear hh
    refine ⟨fun hlt => ?_, fun hge => ?_⟩
    · rcases c8 with ⟨rfl, d1, d2⟩ | ⟨rfl, d1, d2⟩ | ⟨rfl, d1, d2⟩
      · refine ⟨⟨by omega, by omega⟩, _, rfl, ?_⟩
        refine callm (number_cm S hS (x := f x) d1 (by omega)) (by omega) ?_
        rintro _ σ2 ⟨v2, rfl, e1, e2⟩
        rw [ha1]
        have g6 := e2.keep L6 _ (by omega) (by omega) c4 c7
        have g7 := e2.keep L7 _ (by omega) (by omega) c5 d2
        have b7 := (List.getElem?_eq_some_iff.1 g7).1
        refine ⟨⟨by omega, by omega⟩, ?_⟩
        refine ⟨_, _, g7, ⟨rfl, Nat.le_of_ble_eq_true rfl, rfl⟩, _, rfl, _, rfl, ?_⟩
        refine ⟨⟨by omega, by omega⟩, ?_⟩
        exact ⟨_, by omega, ci ⟨1, _, L6, L7, v2, _, _, rfl, ⟨rfl, rfl, rfl, rfl, rfl, rfl, trivial⟩, rfl, by omega, by omega, ⟨c1, c2, by rw [List.length_set]; omega, e2.blk L6 (by omega) c4, e2.blk L7 (by omega) c5, (c6.trans e2).set (by omega), by rw [List.getElem?_set_ne (by omega)]; exact g6, .inr (.inl ⟨rfl, e1.set (by omega) (by omega) (e2.blk L7 (by omega) c5), List.getElem?_set_self (by omega)⟩)⟩⟩⟩
      · refine ⟨⟨by omega, by omega⟩, _, rfl, ?_⟩
        have l2 : (addL xs (f x)).length ≤ xs.length + 1 := addL_len
        refine callm (number_cm S hS (x := g x) d1 (by omega)) (by omega) ?_
        rintro _ σ2 ⟨v2, rfl, e1, e2⟩
        rw [hb]
        have g6 := e2.keep L6 _ (by omega) (by omega) c4 c7
        have g7 := e2.keep L7 _ (by omega) (by omega) c5 d2
        have b7 := (List.getElem?_eq_some_iff.1 g7).1
        refine ⟨⟨by omega, by omega⟩, ?_⟩
        refine ⟨_, _, g7, ⟨rfl, Nat.le_of_ble_eq_true rfl, rfl⟩, _, rfl, _, rfl, ?_⟩
        refine ⟨⟨by omega, by omega⟩, ?_⟩
        exact ⟨_, by omega, ci ⟨2, _, L6, L7, v2, _, _, rfl, ⟨rfl, rfl, rfl, rfl, rfl, rfl, trivial⟩, rfl, by omega, by omega, ⟨c1, c2, by rw [List.length_set]; omega, e2.blk L6 (by omega) c4, e2.blk L7 (by omega) c5, (c6.trans e2).set (by omega), by rw [List.getElem?_set_ne (by omega)]; exact g6, .inr (.inr ⟨rfl, e1.set (by omega) (by omega) (e2.blk L7 (by omega) c5), List.getElem?_set_self (by omega)⟩)⟩⟩⟩
      · exact absurd hlt (by omega)
    · rcases c8 with ⟨rfl, d1, d2⟩ | ⟨rfl, d1, d2⟩ | ⟨rfl, d1, d2⟩
      · exact absurd hge (by omega)
      · exact absurd hge (by omega)
      · refine ⟨_, load_c (contOf_live d2) rfl rfl, ?_⟩
        refine ⟨_, _, c7, ⟨rfl, Nat.le_of_ble_eq_true rfl, rfl⟩, _, rfl, _, rfl, ?_⟩
        refine ⟨_, load_c (contOf_live (List.getElem?_set_self (by omega))) rfl rfl, ?_⟩
        exact endm [] (by dsimp only; omega) ⟨v', rfl, d1.set (by omega) (by omega) c4, c6.set c1⟩
end Go.PI
/- THE SQUARES THAT ARE REACHED. -/
open Go.Proofs
namespace Go.PI
open IM
set_option maxRecDepth 10000
set_option maxHeartbeats 4000000
variable (S : FuncId → Option (List AV → Heap → Option (AV × Heap)))
def NL (l : List Nat) : List Int := l.map fun (x : Nat) => (x : Int)
theorem NL_len {l : List Nat} : (NL l).length = l.length := by unfold NL; rw [List.length_map]
theorem pIs_NL {l : List Nat} : PV.lst l.length (l.map pnn) = pIs (NL l) := by
  unfold pIs
  rw [NL_len]
  unfold NL
  rw [List.map_map]
  rfl
theorem NL_get {l : List Nat} {i x : Nat} (h : l[i]? = some x) : (NL l)[i]? = some (x : Int) := by unfold NL; rw [List.getElem?_map, h]; rfl
theorem fn104 : ctx.fn 104 = some c104 := by kernel_rfl
theorem reached_ct (hS : OldO S) {r u : List Int} {n s : Nat} {f f' g g' : Nat → Nat} (ho : IsO r u n f f' g g') (hs : s < n) :
    Ct (ctx.plus S) 104 [pO r u, pn s] 3000 fun w => ∃ k, (bfs f g s k).length ≤ k ∧ w = pIs (NL (bfs f g s k)) := by
  have hn := ho.le
  have hlen := fun i => bfs_len (s := s) ho.pr ho.pu hs i
  refine ctO_of Onum (hS 104 (by decide)) fn104 ?_
  refine ⟨by omega, ?_⟩
  refine callm (numberingFrom_cm S hS (x := s)) (by omega) ?_
  rintro _ σ0 ⟨j0, m0, v0, rfl, a1, a2, a3, a4, a5⟩
  refine ⟨fun q st => ∃ (i b j m : Nat) (v : PV) (σ : List StB) (T : List PV), st = ⟨T, σ, b⟩ ∧ Gt T 26 [(2, .optr 0 0), (5, .optr j 0), (6, pn i)] ∧ q = n - i ∧ i ≤ n ∧ b ≤ 10 + 24 * i ∧ Hid (σ[0]? = some (.live 24 [pIs r, pIs u]) ∧ j ≠ 0 ∧ m ≠ 0 ∧ blkOf v ≠ some 0 ∧ Num σ j m v (bfs f g s i)), ⟨_, ci ⟨0, _, j0, m0, v0, _, _, rfl, ⟨rfl, rfl, rfl, rfl, trivial⟩, rfl, Nat.zero_le _, by omega, ⟨a2 0 _ rfl, by simp at a3; omega, by simp at a4; omega, a5 0 (by simp), a1⟩⟩⟩, ?_⟩
  rintro _ st ⟨i, b, j, m, v, σ, T, rfl, hT, rfl, hi, hb, hh⟩
  obtain ⟨J, rfl⟩ := gt_open hT
  clear hT
  obtain ⟨c1, c2, c3, c4, c5⟩ := hh.h
  clear hh
  obtain ⟨jv, ty, hcv, hv⟩ := c5.gr.shape c5.ne
  have hliv := c5.liv
  have hL := hlen i
  rcases hv with hv | hv
  all_goals
    rw [hv] at hliv
    refine ⟨_, load_liv hliv rfl rfl, ?_⟩
    refine ⟨fun hlt => ?_, fun hge => ?_⟩
    · have hil : i < (bfs f g s i).length := by omega
      obtain ⟨x, hx⟩ : ∃ x, (bfs f g s i)[i]? = some x := ⟨_, List.getElem?_eq_getElem hil⟩
      have hxn := bfs_lt ho.pr ho.pu hs i x (List.mem_of_getElem? hx)
      refine ⟨_, load_c (contOf_live c1) rfl rfl, ?_⟩
      refine callm (around_cm S hS ho c5 (by omega) hx hxn) (by omega) ?_
      rintro _ σ2 ⟨v2, rfl, e1, e2⟩
      rw [← nxt_at hx] at e1
      refine ⟨⟨by omega, by omega⟩, ?_⟩
      exact ⟨_, by omega, ci ⟨i + 1, _, j, m, v2, _, _, rfl, ⟨rfl, rfl, rfl, rfl, trivial⟩, rfl, by omega, by omega, ⟨e2.keep 0 _ (by omega) (by omega) c4 c1, c2, c3, e2.blk 0 ((List.getElem?_eq_some_iff.1 c1).1) c4, e1⟩⟩⟩
    · refine ⟨_, load_liv hliv rfl rfl, ?_⟩
      obtain ⟨σ', hf⟩ := c5.gr.fz
      rw [hv] at hf
      exact endf hf ⟨i, by omega, pIs_NL⟩
end Go.PI
