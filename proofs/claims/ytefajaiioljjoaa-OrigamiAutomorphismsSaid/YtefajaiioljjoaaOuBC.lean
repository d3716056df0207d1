/- Own work of the verifier: OgL OgM OgN OgO OgP OvF. -/
import Derived.Test.YtefajaiioljjoaaOuAW
import Derived.Test.YtefajaiioljjoaaOuAT
import Derived.Test.YtefajaiioljjoaaOuAX
import Derived.Test.YtefajaiioljjoaaOuBB
set_option linter.all false
set_option exponentiation.threshold 3000
set_option linter.deprecated false
/- DIRECTIONS: numbers, and how the squares are cut anew. -/
open Go.Proofs
namespace Go.PI
open IM
set_option maxRecDepth 10000
set_option maxHeartbeats 4000000
open Classical in
noncomputable def floorZ (p q : Int) : Int := if h : ∃ k, FloorIs p q k then h.choose else 0
structure TS where
  f : Nat → Nat
  f' : Nat → Nat
  g : Nat → Nat
  g' : Nat → Nat
  p : Int
  q : Int
def shf (f f' : Nat → Nat) (k : Int) : Nat → Nat := if 0 ≤ k then it f k.toNat else it f' (-k).toNat
noncomputable def TS.step (s : TS) : TS :=
  { f := fun i => shf s.f s.f' (floorZ s.p s.q) (s.g i), f' := fun i => s.g' (shf s.f' s.f (floorZ s.p s.q) i), g := s.f', g' := s.f, p := s.q, q := -(s.p - floorZ s.p s.q * s.q) }
noncomputable def TS.fin (s : TS) : TS := if s.p < 0 then { s with f := s.f', f' := s.f, g := s.g', g' := s.g } else s
structure TS.Ok (n : Nat) (s : TS) : Prop where
  pr : IsP n s.f s.f'
  pu : IsP n s.g s.g'
theorem it_isP {n : Nat} {f f' : Nat → Nat} (h : IsP n f f') (k : Nat) : IsP n (it f k) (it f' k) := ⟨fun i hi => it_lt h hi k, fun i hi => it_lt h.inv hi k, fun i hi => by
      induction k with
      | zero => rfl
      | succ k ih => rw [show it f (k + 1) i = f (it f k i) from rfl, it_succ', h.gf _ (it_lt h hi k), ih], fun i hi => by
      induction k with
      | zero => rfl
      | succ k ih => rw [show it f' (k + 1) i = f' (it f' k i) from rfl, it_succ', h.fg _ (it_lt h.inv hi k), ih]⟩
theorem shf_isP {n : Nat} {f f' : Nat → Nat} (h : IsP n f f') (k : Int) : IsP n (shf f f' k) (shf f' f k) := by
  unfold shf
  split
  · exact it_isP h _
  · exact it_isP h.inv _
theorem TS.Ok.step {n : Nat} {s : TS} (h : s.Ok n) : s.step.Ok n := ⟨h.pu.comp (shf_isP h.pr _), h.pr.inv⟩
theorem TS.Ok.fin {n : Nat} {s : TS} (h : s.Ok n) : s.fin.Ok n := by
  unfold TS.fin
  split
  · exact ⟨h.pr.inv, h.pu.inv⟩
  · exact h
def TS.ci (s : TS) : Nat → Nat := cmi s.f s.f' s.g s.g'
end Go.PI
/- DIRECTIONS: numbers, of the program and of the reference. -/
open Go.Proofs
namespace Go.PI
open IM
set_option maxRecDepth 10000
set_option maxHeartbeats 4000000
variable (S : FuncId → Option (List AV → Heap → Option (AV × Heap)))
end Go.PI
/- DIRECTIONS: origamis cut anew, by the program. -/
open Go.Proofs
namespace Go.PI
open IM
set_option maxRecDepth 10000
set_option maxHeartbeats 4000000
variable (S : FuncId → Option (List AV → Heap → Option (AV × Heap)))
end Go.PI
/- DIRECTIONS: of the reference; the law. -/
open Go.Proofs
namespace Go.PI
open IM
set_option maxRecDepth 10000
set_option maxHeartbeats 4000000
variable (S : FuncId → Option (List AV → Heap → Option (AV × Heap)))
end Go.PI
/- STRATA of the reference; the law of directions. -/
open Go.Proofs
namespace Go.PI
open IM
set_option maxRecDepth 10000
set_option maxHeartbeats 4000000
variable (S : FuncId → Option (List AV → Heap → Option (AV × Heap)))
theorem fn22 : ctx.fn 22 = some c22 := by kernel_rfl
theorem sameO_ct (hS : OldO S) {t b t' b' : List Int} (l1 : t.length ≤ 1000000) (l2 : b.length ≤ 1000000) (l3 : t'.length ≤ 1000000) (l4 : b'.length ≤ 1000000) :
    Ct (ctx.plus S) 22 [pO t b, pO t' b'] 2 fun r => r = .bool (decide (t = t' ∧ b = b')) := by
  refine ct_of (hS 22 (by decide)) fn22 ?_
  refine ⟨by omega, by omega, ?_⟩
  refine ⟨_, rfl, ?_⟩
  refine ⟨_, rfl, ?_⟩
  refine callq rfl (ints_ct S hS l1 l3) (by omega) ?_
  rintro _ rfl
  by_cases h1 : t = t'
  · rw [decide_eq_true h1]
    refine ⟨_, rfl, ?_⟩
    refine ⟨_, rfl, ?_⟩
    refine callq rfl (ints_ct S hS l2 l4) (by omega) ?_
    rintro _ rfl
    exact endq rfl (by simp [h1])
  · rw [decide_eq_false h1]
    exact endq rfl (by simp [h1])
theorem fn19 : ctx.fn 19 = some c19 := by kernel_rfl
theorem nothing_ct (hS : OldO S) : Ct (ctx.plus S) 19 [pO [] []] 1 fun r => r = .bool true := by
  refine ct_of (hS 19 (by decide)) fn19 ?_
  refine ⟨by omega, ?_⟩
  refine ⟨_, rfl, ?_⟩
  refine ⟨fun _ => ?_, fun h => absurd rfl h⟩
  refine ⟨_, rfl, ?_⟩
  refine ⟨fun _ => ?_, fun h => absurd rfl h⟩
  exact endq rfl rfl
end Go.PI
/- THE LAW of automorphisms. -/
open Go.Proofs
namespace Go.PI
open IM
set_option maxRecDepth 10000
set_option maxHeartbeats 4000000
variable (S : FuncId → Option (List AV → Heap → Option (AV × Heap)))
section
variable {n k : Nat} {f f' g g' : Nat → Nat} {M : List (List Int)}
theorem cju_all (C : Ca n f f' g g') (A : AM n f g M) (hk : k < n) (hl : ls n f g k = k) (h : ∃ D, CQu n f g M k D) : ∀ j, j ≤ M.length → ∃ D, CJu n f g M k j D
  | 0, _ => by obtain ⟨D, hD⟩ := h; exact ⟨D, hD.to⟩
  | j + 1, hj => by
    obtain ⟨D, hD⟩ := cju_all C A hk hl h j (by omega)
    obtain ⟨l, hl2⟩ : ∃ l, M[j]? = some l := ⟨_, List.getElem?_eq_getElem (by omega)⟩
    obtain ⟨a, hA, rfl⟩ := A.at' j l hl2
    exact ⟨_, hD.next C A hk hl hl2 hA⟩
theorem cqu_all (C : Ca n f f' g g') (A : AM n f g M) : ∀ k, k ≤ n → ∃ D, CQu n f g M k D
  | 0, _ => ⟨_, CQu.start⟩
  | k + 1, hk => by
    have ih := cqu_all C A k (by omega)
    by_cases hl : ls n f g k = k
    · obtain ⟨D, hD⟩ := cju_all C A (by omega) hl ih M.length (Nat.le_refl _)
      exact ⟨D, hD.fin C A (by omega) hl⟩
    · obtain ⟨D, hD⟩ := ih
      exact ⟨D, hD.skip C (by omega) hl⟩
theorem am_mul (C : Ca n f f' g g') (A : AM n f g M) : M.length * (fsT n f g n).length = n := by
  obtain ⟨D, hD⟩ := cqu_all C A n (Nat.le_refl n)
  exact (hD.fin C).2
theorem qt_get {x : Nat} (h : (Nat → Nat)) (C : Ca n f f' g g') (hx : x < n) : (qtX (fsT n f g n) (cl n f g) h (fsT n f g n).length)[cl n f g x]? = some (cl n f g (h (ls n f g x))) := by
  unfold qtX
  rw [List.take_length, List.getElem?_map, cl_get C hx]
  rfl
theorem qt_perm {h : Nat → Nat} (C : Ca n f f' g g') (hlt : ∀ x, x < n → h x < n) (hb : ∀ x y, x < n → y < n → Eo n f g (h x) (h y) → Eo n f g x y) : chkP (NL (qtX (fsT n f g n) (cl n f g) h (fsT n f g n).length)) = 0 := by
  have hlen := qtX_len (F := fsT n f g n) (c := cl n f g) (f := h) (Nat.le_refl _)
  refine chk0 (fun z hz => ?_) ?_
  · rw [NL_len, hlen]
    unfold NL at hz
    obtain ⟨y, hy, rfl⟩ := List.mem_map.1 hz
    unfold qtX at hy
    rw [List.take_length] at hy
    obtain ⟨x, hx, rfl⟩ := List.mem_map.1 hy
    have := cl_lt C (hlt x (mem_fsT.1 hx).1)
    exact ⟨by omega, by omega⟩
  · unfold NL qtX
    rw [List.take_length, List.map_map, List.Nodup, List.pairwise_map]
    refine (List.Pairwise.and_mem.1 (fsT_nodup (n := n) (f := f) (g := g) (m := n))).imp fun {x y} hxy e => ?_
    obtain ⟨hx, hy, hne⟩ := hxy
    obtain ⟨a1, a2⟩ := mem_fsT.1 hx
    obtain ⟨b1, b2⟩ := mem_fsT.1 hy
    have e : (cl n f g (h x) : Int) = cl n f g (h y) := e
    have h1 := (cl_iff C (hlt x a1) (hlt y b1)).1 (by omega)
    have := ls_eq C a1 (hb x y a1 b1 h1)
    omega
theorem qt_chk (C : Ca n f f' g g') (hn : n ≤ 60) : chkO (NL (qtX (fsT n f g n) (cl n f g) f (fsT n f g n).length)) (NL (qtX (fsT n f g n) (cl n f g) g (fsT n f g n).length)) = 0 := by
  have e1 : (NL (qtX (fsT n f g n) (cl n f g) f (fsT n f g n).length)).length = (fsT n f g n).length := by rw [NL_len, qtX_len (Nat.le_refl _)]
  have e2 : (NL (qtX (fsT n f g n) (cl n f g) g (fsT n f g n).length)).length = (fsT n f g n).length := by rw [NL_len, qtX_len (Nat.le_refl _)]
  have hl := fsT_len (n := n) (f := f) (g := g) (m := n)
  have hp := List.length_pos_of_mem (ls_mem C C.h0)
  rw [chkOu (by omega) (by omega) (qt_perm C (fun x hx => C.pf.lt x hx) fun x y hx hy e => e.fb C hx hy)]
  exact qt_perm C (fun x hx => C.pg.lt x hx) fun x y hx hy e => e.gb C hx hy
theorem qt_cov (C : Ca n f f' g g') : CovL (PL n f) (PL n g) (NL (qtX (fsT n f g n) (cl n f g) f (fsT n f g n).length)) (NL (qtX (fsT n f g n) (cl n f g) g (fsT n f g n).length)) (PL n (cl n f g)) := by
  have e1 : (NL (qtX (fsT n f g n) (cl n f g) f (fsT n f g n).length)).length = (fsT n f g n).length := by rw [NL_len, qtX_len (Nat.le_refl _)]
  refine ⟨fun x hx => ?_, fun y hy => ?_⟩
  · rw [PL_len] at hx
    have hf := C.pf.lt x hx
    have hg := C.pg.lt x hx
    have hl := ls_lt C hx
    have he := (ls_spec C hx).1
    rw [PL_getD hx, PL_getD hx, PL_getD hx, Int.toNat_natCast, Int.toNat_natCast, Int.toNat_natCast, PL_getD hf, PL_getD hg, getD_of (NL_get (qt_get f C hx)), getD_of (NL_get (qt_get g C hx))]
    rw [(cl_iff C hf (C.pf.lt _ hl)).2 (he.mf hx), (cl_iff C hg (C.pg.lt _ hl)).2 (he.mg hx)]
    exact ⟨rfl, rfl⟩
  · rw [e1] at hy
    obtain ⟨x, hx⟩ : ∃ x, (fsT n f g n)[y]? = some x := ⟨_, List.getElem?_eq_getElem hy⟩
    obtain ⟨a, -, b⟩ := cl_at C hx
    have := PL_get (f := cl n f g) a
    rw [b] at this
    exact List.mem_of_getElem? this
end
theorem fn40 : ctx.fn 40 = some c40 := by kernel_rfl
theorem pquot_bad (hS : OldO S) {r u : List Int} {e : Int} (he : e ≠ 0) (h72 : Ct (ctx.plus S) 72 [pOs [(r, u)]] 3300 fun v => v = pn e) : Ct (ctx.plus S) 40 [pO r u] 90000 fun v => v = .tup [pO [] [], .lst 0 [], pn e] := by
  refine ct_of (hS 40 (by decide)) fn40 ?_
  refine ⟨by omega, by omega, ?_⟩
  refine ⟨_, rfl, ?_⟩
  refine ⟨by omega, partc rfl ⟨_, rfl, ?_⟩⟩
  refine cal1 (fz_own (ty := 24) rfl (Nat.le_refl 2) (Nat.le_refl _) rfl) h72 (by omega) ?_
  rintro _ rfl
  refine ⟨fun _ => ?_, fun h0 => absurd h0 he⟩
  refine ⟨_, rfl, ?_⟩
  refine ⟨_, _, rfl, ⟨rfl, Nat.le_of_ble_eq_true rfl, rfl⟩, _, rfl, _, rfl, ?_⟩
  refine ⟨_, rfl, ?_⟩
  exact ⟨⟨[], rfl⟩⟩
theorem pquot_ok (hS : OldO S) {r u : List Int} {n : Nat} {f f' g g' : Nat → Nat} (ho : IsO r u n f f' g g') (hcn : Conn n f g) (hn20 : n ≤ 20) :
    Ct (ctx.plus S) 40 [pO r u] 90000 fun v => v = .tup [pO (NL (qtX (fsT n f g n) (cl n f g) f (fsT n f g n).length)) (NL (qtX (fsT n f g n) (cl n f g) g (fsT n f g n).length)), pIs (PL n (cl n f g)), pn 0] := by
  have e : cc n f g = 0 := by unfold cc; rw [if_pos hcn]
  have h72 := checkConn_ok S hS ho
  rw [e] at h72
  refine ct_of (hS 40 (by decide)) fn40 ?_
  refine ⟨by omega, by omega, ?_⟩
  refine ⟨_, rfl, ?_⟩
  refine ⟨by omega, partc rfl ⟨_, rfl, ?_⟩⟩
  refine cal1 (fz_own (ty := 24) rfl (Nat.le_refl 2) (Nat.le_refl _) rfl) h72 (by omega) ?_
  rintro _ rfl
  refine ⟨fun h => absurd rfl h, fun _ => ?_⟩
  refine ⟨_, rfl, ?_⟩
  refine callq rfl (quot_ct S hS ho hcn hn20) (by omega) ?_
  rintro _ rfl
  refine ⟨by omega, ?_⟩
  refine ⟨_, _, rfl, ⟨rfl, Nat.le_of_ble_eq_true rfl, rfl⟩, _, rfl, _, rfl, ?_⟩
  refine ⟨_, rfl, ?_⟩
  refine ⟨_, _, rfl, ⟨rfl, Nat.le_of_ble_eq_true rfl, rfl⟩, _, rfl, _, rfl, ?_⟩
  refine ⟨_, rfl, ?_⟩
  exact endsq rfl rfl
theorem fn7 : ctx.fn 7 = some c7 := by kernel_rfl
theorem autoLaw_ct (hS : OldO S) (hA : Ct (ctx.plus S) 13 [] 0 fun r => r = .bool true) {r u : List Int} : Ct (ctx.plus S) 7 [pO r u] 3000000 fun v => v = .bool true := by
  refine ct_of (hS 7 (by decide)) fn7 ?_
  refine ⟨by omega, ?_⟩
  refine callq rfl hA (by omega) ?_
  rintro _ rfl
  refine ⟨_, rfl, ?_⟩
  refine callq rfl (few_ct S hS) (by omega) ?_
  rintro _ (⟨hf, rfl⟩ | ⟨hf, rfl⟩)
  rotate_left
  · exact endq rfl rfl
  have l1 : r.length ≤ 62 ∧ u.length ≤ 62 := by rcases hf with h | h <;> omega
  have key : (∃ e : Int, e ≠ 0 ∧ Ct (ctx.plus S) 72 [pOs [(r, u)]] 3300 (fun v => v = pn e) ∧ Ct (ctx.plus S) 28 [pO r u] 310010 fun v => v = pn e) ∨ ∃ n f f' g g', IsO r u n f f' g g' ∧ Conn n f g := by
    by_cases h0 : chkO r u = 0
    · obtain ⟨n, f, f', g, g', ho⟩ := chkO_ok h0
      by_cases hc : Conn n f g
      · exact .inr ⟨n, f, f', g, g', ho, hc⟩
      · have e16 : cc n f g = 16 := by unfold cc; rw [if_neg hc]
        have h72 := checkConn_ok S hS ho
        have h28 := checkOne_ok S hS ho
        rw [e16] at h72 h28
        exact .inl ⟨16, by decide, h72, h28⟩
    · exact .inl ⟨_, h0, checkConn_bad S hS (by omega) (by omega) h0, (checkOne_bad S hS (by omega) (by omega) h0).mono (by omega) fun _ h => h⟩
  refine ⟨_, rfl, ?_⟩
  rcases key with ⟨e, he, h72, h28⟩ | ⟨n, f, f', g, g', ho, hc⟩
  · refine callq rfl (pautos_bad S hS he h72) (by omega) ?_
    rintro _ rfl
    refine ⟨_, rfl, ?_⟩
    refine callq rfl (pquot_bad S hS he h72) (by omega) ?_
    rintro _ rfl
    refine ⟨by omega, ?_⟩
    refine ⟨_, _, rfl, ⟨rfl, Nat.le_of_ble_eq_true rfl, rfl⟩, _, rfl, _, rfl, ?_⟩
    refine ⟨_, rfl, ?_⟩
    refine callq rfl h28 (by omega) ?_
    rintro _ rfl
    refine ⟨fun _ => ?_, fun h => absurd h he⟩
    refine ⟨fun _ => ?_, fun h => absurd rfl h⟩
    refine ⟨fun _ => ?_, fun h => absurd rfl h⟩
    refine ⟨fun _ => ?_, fun h => absurd rfl h⟩
    refine ⟨_, rfl, ?_⟩
    refine callq rfl (nothing_ct S hS) (by omega) ?_
    rintro _ rfl
    refine ⟨fun _ => ?_, fun h => absurd rfl h⟩
    exact endq rfl rfl
  · have C : Ca n f f' g g' := ⟨ho.pr, ho.pu, ho.pos, hc⟩
    have A := am_of C
    have hmul := am_mul C A
    have hn12 : n ≤ 12 := by have := ho.l1; have := ho.le; rcases hf with h | h <;> omega
    have hn := ho.le
    have hl := ho.l1
    have e0 : cc n f g = 0 := by unfold cc; rw [if_pos hc]
    have hmm := mps_mem (n := n) (m := n) (f := f) (g := g) (F := f) (G := g) n
    have hchk := qt_chk C hn
    have hcov := qt_cov C
    have hrl := hl.1
    have hFl := fsT_len (n := n) (f := f) (g := g) (m := n)
    have e1 : (NL (qtX (fsT n f g n) (cl n f g) f (fsT n f g n).length)).length = (fsT n f g n).length := by rw [NL_len, qtX_len (Nat.le_refl _)]
    have e2 : (NL (qtX (fsT n f g n) (cl n f g) g (fsT n f g n).length)).length = (fsT n f g n).length := by rw [NL_len, qtX_len (Nat.le_refl _)]
    have hin : InB (PL n (cl n f g)) (fsT n f g n).length := fun z hz => by
      unfold PL at hz
      obtain ⟨x, hx, rfl⟩ := List.mem_map.1 hz
      have := cl_lt C (List.mem_range.1 hx)
      exact ⟨by omega, by omega⟩
    have hpl : (PL n (cl n f g)).length = n := PL_len
    have h38 := checkCov_ct S hS (r := r) (u := u) (r2 := NL (qtX (fsT n f g n) (cl n f g) f (fsT n f g n).length)) (u2 := NL (qtX (fsT n f g n) (cl n f g) g (fsT n f g n).length)) (fs := PL n (cl n f g)) (by omega) (by omega) (by omega) (by omega) (by omega)
    rw [chkM_0 (chkA_two.2 ⟨ho.chk, hchk⟩) (by rw [hpl]; rintro (h | ⟨h, -⟩); exact h hrl.symm; cases h) (by rw [e1]; exact hin) (by rw [ho.hr, ho.hu]; exact hcov)] at h38
    have h34 := rmaps_ct S hS ho ho hc
    have h39 := pautos_ok S hS ho hc (by omega)
    obtain ⟨M, hM⟩ : ∃ M, mps n n f g f g n = M := ⟨_, rfl⟩
    rw [hM] at A hmul hmm h34 h39
    have h40 := pquot_ok S hS ho hc (by omega)
    have h41 := rquot_ct S hS ho hc
    obtain ⟨X, hX⟩ : ∃ X, NL (qtX (fsT n f g n) (cl n f g) f (fsT n f g n).length) = X := ⟨_, rfl⟩
    obtain ⟨Y, hY⟩ : ∃ Y, NL (qtX (fsT n f g n) (cl n f g) g (fsT n f g n).length) = Y := ⟨_, rfl⟩
    obtain ⟨P, hP⟩ : ∃ P, PL n (cl n f g) = P := ⟨_, rfl⟩
    rw [hX, hY, hP] at h40 h41 h38
    rw [hX] at e1
    rw [hY] at e2
    rw [hP] at hpl
    have hMl := A.len
    have hMp := A.pos
    clear hcov hchk hin hX hY hP hM A C
    refine callq rfl h39 (by omega) ?_
    rintro _ rfl
    refine ⟨_, rfl, ?_⟩
    refine callq rfl h40 (by omega) ?_
    rintro _ rfl
    refine ⟨by omega, ?_⟩
    refine ⟨_, _, rfl, ⟨rfl, Nat.le_of_ble_eq_true rfl, rfl⟩, _, rfl, _, rfl, ?_⟩
    refine ⟨_, rfl, ?_⟩
    refine callq rfl (checkOne_ok S hS ho) (by omega) ?_
    rintro _ rfl
    rw [e0]
    refine ⟨fun h => absurd rfl h, fun _ => ?_⟩
    refine ⟨_, rfl, ?_⟩
    refine callq rfl h41 (by omega) ?_
    rintro _ rfl
    refine ⟨by omega, ?_⟩
    refine ⟨_, _, rfl, ⟨rfl, Nat.le_of_ble_eq_true rfl, rfl⟩, _, rfl, _, rfl, ?_⟩
    refine ⟨fun _ => ?_, fun h => absurd rfl h⟩
    refine ⟨_, rfl, ?_⟩
    refine ⟨_, rfl, ?_⟩
    refine callq rfl h34 (by omega) ?_
    rintro _ rfl
    refine callq rfl (lists_ct S hS (by omega) (by omega) (fun x hx => by have := hmm x hx; omega) (fun x hx => by have := hmm x hx; omega)) (by omega) ?_
    rintro _ rfl
    rw [decide_eq_true rfl]
    refine ⟨fun _ => ?_, fun h => absurd rfl h⟩
    refine ⟨_, rfl, ?_⟩
    refine ⟨_, rfl, ?_⟩
    refine callq rfl (sameO_ct S hS (by omega) (by omega) (by omega) (by omega)) (by omega) ?_
    rintro _ rfl
    rw [decide_eq_true ⟨rfl, rfl⟩]
    refine callq rfl (ints_ct S hS (by omega) (by omega)) (by omega) ?_
    rintro _ rfl
    rw [decide_eq_true rfl]
    refine ⟨fun _ => ?_, fun h => absurd h (by omega)⟩
    refine ⟨_, rfl, ?_⟩
    refine callq rfl (size_ct S hS) (by omega) ?_
    rintro _ rfl
    have htm : (r.length : Int).tmod (M.length : Int) = 0 := Int.tmod_eq_zero_of_dvd ⟨((fsT n f g n).length : Int), by rw [hrl.trans hmul.symm]; exact Int.natCast_mul _ _⟩
    refine ⟨by omega, ?_⟩
    refine ⟨fun _ => ?_, fun h => absurd htm h⟩
    refine ⟨_, rfl, ?_⟩
    refine ⟨_, rfl, ?_⟩
    refine callq rfl h38 (by omega) ?_
    rintro _ rfl
    refine ⟨fun _ => ?_, fun h => absurd rfl h⟩
    exact endq rfl rfl
end Go.PI
