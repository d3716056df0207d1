/- Own work of the verifier: OgL OgM OgN OgO OgP OtH OtC OzA OzB OzC. -/
import Derived.Test.YtefajaiioljjoaaOvAY
import Derived.Test.YtefajaiioljjoaaOvAT
import Derived.Test.YtefajaiioljjoaaOvAZ
set_option linter.all false
set_option exponentiation.threshold 3000
set_option linter.deprecated false
/- DIRECTIONS: numbers, and how the squares are cut anew. -/
open Go.Proofs
namespace Go.PI
open IM
set_option maxRecDepth 10000
set_option maxHeartbeats 4000000
theorem tqm {p q : Int} (hq : q ≠ 0) : p = q * p.tdiv q + p.tmod q ∧ (0 ≤ p → 0 ≤ p.tmod q) ∧ (p ≤ 0 → p.tmod q ≤ 0) ∧ (p.tmod q).natAbs < q.natAbs ∧ (p.tdiv q).natAbs ≤ p.natAbs := by
  refine ⟨(Int.mul_tdiv_add_tmod p q).symm, fun h => Int.tmod_nonneg _ h, fun h => ?_, ?_, ?_⟩
  · have := Int.tmod_nonneg q (show 0 ≤ -p by omega)
    rw [Int.neg_tmod] at this
    omega
  · rw [Int.natAbs_tmod]; exact Nat.mod_lt _ (by omega)
  · rw [Int.natAbs_tdiv]; exact Nat.div_le_self _ _
open Classical in
noncomputable def floorZ (p q : Int) : Int := if h : ∃ k, FloorIs p q k then h.choose else 0
structure TS where
  f : Nat → Nat
  f' : Nat → Nat
  g : Nat → Nat
  g' : Nat → Nat
  p : Int
  q : Int
def shf (f f' : Nat → Nat) (k : Int) : Nat → Nat := if 0 ≤ k then it f k.toNat else it f' (-k).toNat
noncomputable def TS.step (s : TS) : TS :=
  { f := fun i => shf s.f s.f' (floorZ s.p s.q) (s.g i), f' := fun i => s.g' (shf s.f' s.f (floorZ s.p s.q) i), g := s.f', g' := s.f, p := s.q, q := -(s.p - floorZ s.p s.q * s.q) }
noncomputable def TS.fin (s : TS) : TS := if s.p < 0 then { s with f := s.f', f' := s.f, g := s.g', g' := s.g } else s
structure TS.Ok (n : Nat) (s : TS) : Prop where
  pr : IsP n s.f s.f'
  pu : IsP n s.g s.g'
theorem it_isP {n : Nat} {f f' : Nat → Nat} (h : IsP n f f') (k : Nat) : IsP n (it f k) (it f' k) := ⟨fun i hi => it_lt h hi k, fun i hi => it_lt h.inv hi k, fun i hi => by
      induction k with
      | zero => rfl
      | succ k ih => rw [show it f (k + 1) i = f (it f k i) from rfl, it_succ', h.gf _ (it_lt h hi k), ih], fun i hi => by
      induction k with
      | zero => rfl
      | succ k ih => rw [show it f' (k + 1) i = f' (it f' k i) from rfl, it_succ', h.fg _ (it_lt h.inv hi k), ih]⟩
theorem shf_isP {n : Nat} {f f' : Nat → Nat} (h : IsP n f f') (k : Int) : IsP n (shf f f' k) (shf f' f k) := by
  unfold shf
  split
  · exact it_isP h _
  · exact it_isP h.inv _
theorem TS.Ok.step {n : Nat} {s : TS} (h : s.Ok n) : s.step.Ok n := ⟨h.pu.comp (shf_isP h.pr _), h.pr.inv⟩
theorem TS.Ok.fin {n : Nat} {s : TS} (h : s.Ok n) : s.fin.Ok n := by
  unfold TS.fin
  split
  · exact ⟨h.pr.inv, h.pu.inv⟩
  · exact h
def TS.cm (s : TS) : Nat → Nat := cmf s.f s.f' s.g s.g'
def TS.ci (s : TS) : Nat → Nat := cmi s.f s.f' s.g s.g'
theorem TS.Ok.cm {n : Nat} {s : TS} (h : s.Ok n) : IsP n s.cm s.ci := ((h.pr.inv.comp h.pu.inv).comp h.pr).comp h.pu
end Go.PI
/- DIRECTIONS: numbers, of the program and of the reference. -/
open Go.Proofs
namespace Go.PI
open IM
set_option maxRecDepth 10000
set_option maxHeartbeats 4000000
variable (S : FuncId → Option (List AV → Heap → Option (AV × Heap)))
theorem gcd_step {a b : Int} (hb : b ≠ 0) : Nat.gcd b.natAbs (a.tmod b).natAbs = Nat.gcd a.natAbs b.natAbs := by
  rw [Int.natAbs_tmod, Nat.gcd_comm b.natAbs, ← Nat.gcd_rec, Nat.gcd_comm]
theorem fn100 : ctx.fn 100 = some c100 := by kernel_rfl
theorem gcd_ct (hS : OldO S) {p q : Int} (hp : p.natAbs ≤ 100000) (hq : q.natAbs ≤ 100000) : Ct (ctx.plus S) 100 [pn p, pn q] 0 fun v => v = pn (Nat.gcd p.natAbs q.natAbs : Nat) := by
  refine ct_of (hS 100 (by decide)) fn100 ?_
  refine ⟨fun m s => ∃ (a b : Int) (T : List PV), s = ⟨T, [], 0⟩ ∧ Gt T 15 [(0, pn a), (1, pn b)] ∧ m = b.natAbs ∧ a.natAbs ≤ 100000 ∧ b.natAbs ≤ 100000 ∧ Hid (Nat.gcd a.natAbs b.natAbs = Nat.gcd p.natAbs q.natAbs), ⟨_, ci ⟨p, q, _, rfl, ⟨rfl, rfl, rfl, trivial⟩, rfl, hp, hq, ⟨rfl⟩⟩⟩, ?_⟩
  rintro _ s ⟨a, b, T, rfl, hT, rfl, ha, hb, hg⟩
  obtain ⟨J, rfl⟩ := gt_open hT
  clear hT
  refine ⟨fun hne => ?_, fun heq => ?_⟩
  · obtain ⟨t1, t2, t3, t4, t5⟩ := tqm (p := a) hne
    refine ⟨by kernel_rfl, ?_⟩
    refine ⟨hne, ?_⟩
    exact ⟨_, t4, ci ⟨b, a.tmod b, _, rfl, ⟨rfl, rfl, rfl, trivial⟩, rfl, hb, by omega, ⟨by rw [gcd_step hne]; exact hg.h⟩⟩⟩
  · have h0 : b = 0 := heq
    subst h0
    have := hg.h
    rw [Int.natAbs_zero, Nat.gcd_zero_right] at this
    refine ⟨⟨by omega, by omega⟩, ?_⟩
    refine endq rfl ?_
    rw [← this]
    show pn _ = pn _
    congr 1
    omega
theorem fn57 : ctx.fn 57 = some c57 := by kernel_rfl
theorem abs_ct (hS : OldO S) {a : Int} (ha : -9000000000000000000 ≤ a) : Ct (ctx.plus S) 57 [pn a] 0 fun v => v = pn (a.natAbs : Nat) := by
  refine ct_of (hS 57 (by decide)) fn57 ?_
  refine ⟨fun h => ?_, fun h => ?_⟩
  · refine ⟨⟨by omega, by omega⟩, ?_⟩
    refine endq rfl ?_
    show pn _ = pn _
    congr 1
    omega
  · refine endq rfl ?_
    show pn _ = pn _
    congr 1
    omega
theorem fn128 : ctx.fn 128 = some c128 := by kernel_rfl
theorem fn102 : ctx.fn 102 = some c102 := by kernel_rfl
theorem tdiv_mul {k q : Int} (hq : q ≠ 0) : (k * q).tdiv q = k := Int.mul_tdiv_cancel _ hq
end Go.PI
/- DIRECTIONS: origamis cut anew, by the program. -/
open Go.Proofs
namespace Go.PI
open IM
set_option maxRecDepth 10000
set_option maxHeartbeats 4000000
variable (S : FuncId → Option (List AV → Heap → Option (AV × Heap)))
end Go.PI
/- DIRECTIONS: of the reference; the law. -/
open Go.Proofs
namespace Go.PI
open IM
set_option maxRecDepth 10000
set_option maxHeartbeats 4000000
variable (S : FuncId → Option (List AV → Heap → Option (AV × Heap)))
end Go.PI
/- STRATA of the reference; the law of directions. -/
open Go.Proofs
namespace Go.PI
open IM
set_option maxRecDepth 10000
set_option maxHeartbeats 4000000
variable (S : FuncId → Option (List AV → Heap → Option (AV × Heap)))
def cntI (M : List (List Int)) (L : Nat) : Nat := (M.filter fun l => decide (l.length = L)).length
theorem cnt_take {M : List (List Int)} {L i : Nat} {l : List Int} (h : M[i]? = some l) : cntI (M.take (i + 1)) L = cntI (M.take i) L + if l.length = L then 1 else 0 := by
  unfold cntI
  rw [List.take_add_one, h, List.filter_append, List.length_append]
  by_cases hl : l.length = L <;> simp [hl]
theorem cnt_le {M : List (List Int)} {L i : Nat} : cntI (M.take i) L ≤ M.length := by
  unfold cntI
  refine Nat.le_trans (List.length_filter_le _ _) ?_
  rw [List.length_take]
  omega
def accTo (n : Nat) (M : List (List Int)) (j : Nat) : List Int := (List.range j).flatMap fun i => List.replicate (cntI M (n - i + 1)) ((n - i : Nat) : Int)
theorem acc_succ {n j : Nat} {M : List (List Int)} : accTo n M (j + 1) = accTo n M j ++ List.replicate (cntI M (n - j + 1)) ((n - j : Nat) : Int) := by
  unfold accTo
  rw [List.range_succ, List.flatMap_append]
  simp
theorem acc_len {n : Nat} {M : List (List Int)} : ∀ j, (accTo n M j).length ≤ j * M.length
  | 0 => by simp [accTo]
  | j + 1 => by
    rw [acc_succ, List.length_append, List.length_replicate, Nat.succ_mul]
    have := acc_len (n := n) (M := M) j
    have h2 : cntI M (n - j + 1) ≤ M.length := by
      have := cnt_le (M := M) (L := n - j + 1) (i := M.length)
      rwa [List.take_length] at this
    omega
theorem fn49 : ctx.fn 49 = some c49 := by kernel_rfl
theorem stratum_ct (hS : OldO S) {r u : List Int} {n : Nat} {f f' g g' : Nat → Nat} (h : IsO r u n f f' g g') : Ct (ctx.plus S) 49 [pO r u] 20000 fun v => v = pIs (accTo n (cycs n (cmf f f' g g')) (n + 1)) := by
  obtain ⟨M, hM⟩ : ∃ M, cycs n (cmf f f' g g') = M := ⟨_, rfl⟩
  have hMl : M.length ≤ n := by rw [← hM]; exact cycs_len (Nat.le_refl n)
  have hMe : ∀ x ∈ M, x.length ≤ n ∧ 0 < x.length := fun x hx => by
    refine ⟨by rw [← hM] at hx; exact cycs_mem h.cm x hx, ?_⟩
    rw [← hM] at hx
    unfold cycs at hx
    obtain ⟨i, hi, rfl⟩ := List.mem_map.1 hx
    rw [cyc_len]
    exact (ordr_spec h.cm (List.mem_range.1 (List.mem_filter.1 hi).1)).1
  have hn := h.le
  have hrl := h.l1.1
  have hacc : ∀ j, j ≤ n + 1 → (accTo n M j).length ≤ 61 * 60 := fun j hj => Nat.le_trans (acc_len j) (Nat.mul_le_mul (by omega) (by omega))
  refine ct_of (hS 49 (by decide)) fn49 ?_
  refine ⟨by omega, ?_⟩
  refine ⟨_, rfl, ?_⟩
  refine callq rfl (rvertices_ct S hS h) (by omega) ?_
  rintro _ rfl
  rw [hM]
  refine ⟨_, rfl, ?_⟩
  refine callq rfl (size_ct S hS) (by omega) ?_
  rintro _ rfl
  refine ⟨fun m s => ∃ (j b : Nat) (v : PV) (σ : List StB) (k : Int) (T : List PV), s = ⟨T, σ, b⟩ ∧ Gt T 34 [(3, pM M), (4, v), (5, pn k)] ∧ m = n + 1 - j ∧ k = (n : Int) - j ∧ j ≤ n + 1 ∧ b ≤ 10002 + 2 * (accTo n M j).length ∧ Hid (Gr pn 3 v σ (accTo n M j)), ⟨_, ci ⟨0, _, .nils, _, r.length, _, rfl, ⟨rfl, rfl, rfl, rfl, trivial⟩, rfl, by omega, Nat.zero_le _, by omega, ⟨.nil⟩⟩⟩, ?_⟩
  rintro _ s ⟨j, b, v, σ, k, T, rfl, hT, rfl, hk, hj, hb, hg⟩
  obtain ⟨J, rfl⟩ := gt_open hT
  clear hT
  refine ⟨fun hlt => ?_, fun hge => ?_⟩
  · have hjn : j ≤ n := by omega
    have ha := hacc (j + 1) (by omega)
    rw [acc_succ, List.length_append, List.length_replicate] at ha
    have ha0 := hacc j (by omega)
    refine ⟨fun m s => ∃ (i b : Nat) (v : PV) (σ : List StB) (T : List PV), s = ⟨T, σ, b⟩ ∧ Gt T 34 [(3, pM M), (4, v), (5, pn k), (6, pn i)] ∧ m = M.length - i ∧ i ≤ M.length ∧ b ≤ 10002 + 2 * (accTo n M j).length + 2 * cntI (M.take i) (n - j + 1) ∧ Hid (Gr pn 3 v σ (accTo n M j ++ List.replicate (cntI (M.take i) (n - j + 1)) k)), ⟨_, ci ⟨0, b, v, σ, _, rfl, ⟨rfl, rfl, rfl, rfl, rfl, trivial⟩, rfl, Nat.zero_le _, by omega, ⟨by simpa [cntI] using hg.h⟩⟩⟩, ?_⟩
    rintro _ s ⟨i, b, v, σ, T, rfl, hT, rfl, hi, hb, hg⟩
    obtain ⟨J, rfl⟩ := gt_open hT
    clear hT
    have hcl := cnt_le (M := M) (L := n - j + 1) (i := i)
    refine ⟨fun hlt2 => ?_, fun hge2 => ?_⟩
    · obtain ⟨l, hl⟩ := xs_getM (xs := M) (i := i) (by omega)
      have hll := hMe l (List.mem_of_getElem? hl)
      have hct := cnt_take (L := n - j + 1) hl
      refine ⟨⟨⟨by omega, by omega⟩, len_map_le (by omega)⟩, ?_⟩
      refine ⟨_, ld (at_map hl) (by show _ * 1 = i; omega), ?_⟩
      refine ⟨⟨by omega, by omega⟩, ?_⟩
      refine ⟨fun heq => ?_, fun hne => ?_⟩
      · have hL : l.length = n - j + 1 := by omega
        rw [if_pos hL] at hct
        refine ⟨by omega, part1 fzI ⟨[pn k], rfl, ?_⟩⟩
        refine appG (f := pn) (e := 3) (y := k) hg.h.push push_cont rfl rfl rfl rfl (by kernel_rfl) rfl rfl (by rw [List.length_append, List.length_replicate]; omega) (by omega) fun v' σ' hv' _ _ => ?_
        refine ⟨⟨by omega, by omega⟩, ?_⟩
        refine ⟨_, by omega, ci ⟨i + 1, _, v', σ', _, rfl, ⟨rfl, rfl, rfl, rfl, rfl, trivial⟩, rfl, by omega, by omega, ⟨?_⟩⟩⟩
        rw [hct, List.replicate_succ', ← List.append_assoc]
        exact hv'
      · have hL : ¬ l.length = n - j + 1 := by omega
        rw [if_neg hL] at hct
        refine ⟨⟨by omega, by omega⟩, ?_⟩
        refine ⟨_, by omega, ci ⟨i + 1, _, v, σ, _, rfl, ⟨rfl, rfl, rfl, rfl, rfl, trivial⟩, rfl, by omega, by omega, ⟨?_⟩⟩⟩
        rw [hct]
        exact hg.h
    · have hi' : i = M.length := by omega
      subst hi'
      have hg' := hg.h
      rw [List.take_length] at hg' hb
      refine ⟨⟨by omega, by omega⟩, ?_⟩
      refine ⟨_, by omega, ci ⟨j + 1, _, v, σ, k - 1, _, rfl, ⟨rfl, rfl, rfl, rfl, trivial⟩, rfl, by omega, by omega, by rw [acc_succ, List.length_append, List.length_replicate]; omega, ⟨?_⟩⟩⟩
      rw [acc_succ, show ((n - j : Nat) : Int) = k by omega]
      exact hg'
  · have hj' : j = n + 1 := by omega
    subst hj'
    obtain ⟨σ', hf⟩ := hg.h.fz
    exact endf hf rfl
end Go.PI
/- slices.Reverse; the orders of vertices. -/
open Go.Proofs
namespace Go.PI
open IM
set_option maxRecDepth 20000
set_option maxHeartbeats 4000000
variable (S : FuncId → Option (List AV → Heap → Option (AV × Heap)))
def Rv (xs ys : List Int) (i : Nat) : Prop := ys.length = xs.length ∧ ∀ k, k < xs.length → ys[k]? = if k < i ∨ xs.length ≤ k + i then xs[xs.length - 1 - k]? else xs[k]?
theorem rv_zero (xs : List Int) : Rv xs xs 0 := ⟨rfl, fun k hk => by rw [if_neg (by omega)]⟩
theorem rv_end {xs ys : List Int} {i : Nat} (h : Rv xs ys i) (hi : xs.length ≤ 2 * i + 1) : ys = xs.reverse := by
  apply List.ext_getElem?
  intro k
  by_cases hk : k < xs.length
  · rw [h.2 k hk, List.getElem?_reverse hk]
    by_cases hc : k < i ∨ xs.length ≤ k + i
    · rw [if_pos hc]
    · rw [if_neg hc, show xs.length - 1 - k = k by omega]
  · rw [List.getElem?_eq_none (by rw [h.1]; omega), List.getElem?_eq_none (by simp; omega)]
theorem rv_step {xs ys : List Int} {i j : Nat} {x y : Int} (h : Rv xs ys i) (hj : j + i + 1 = xs.length) (hij : i < j) (hx : ys[i]? = some x) (hy : ys[j]? = some y) : Rv xs ((ys.set i y).set j x) (i + 1) := by
  refine ⟨by simp [h.1], fun k hk => ?_⟩
  have hxi := h.2 i (by omega)
  have hyj := h.2 j (by omega)
  rw [hx, if_neg (by omega)] at hxi
  rw [hy, if_neg (by omega)] at hyj
  rw [List.getElem?_set]
  by_cases e1 : j = k
  · subst e1
    rw [if_pos rfl, if_pos (by rw [List.length_set, h.1]; omega), if_pos (by omega), hxi]
    congr 1
    omega
  · rw [if_neg e1, List.getElem?_set]
    by_cases e2 : i = k
    · subst e2
      rw [if_pos rfl, if_pos (by rw [h.1]; omega), if_pos (by omega), hyj]
      congr 1
      omega
    · rw [if_neg e2, h.2 k hk]
      by_cases hc : k < i ∨ xs.length ≤ k + i
      · rw [if_pos hc, if_pos (by omega)]
      · rw [if_neg hc, if_neg (by omega)]
theorem rv_same {α : Type} {l : List α} {j : Nat} {x : α} (h : l[j]? = some x) : l.set j x = l := by
  obtain ⟨h1, rfl⟩ := List.getElem?_eq_some_iff.1 h
  exact List.set_getElem_self h1
theorem fn125 : ctx.fn 125 = some c125 := by kernel_rfl
theorem reverse_cm (hS : OldO S) {σ : List StB} {jv n : Nat} {xs : List Int} {v : PV} (hv : v = .own jv 0 n n 1 ∨ v = .ownu jv n 1) (hj : σ[jv]? = some (.live 3 (xs.map pn))) (hl : xs.length = n) (hn : n ≤ 1000) :
    Cm (ctx.plus S) 125 [v] σ 0 fun w σ' => w = .tup [] ∧ σ' = σ.set jv (.live 3 (xs.reverse.map pn)) := by
  refine cm_of Opn.no (hS 125 (by decide)) fn125 fun c k0 hc => ?_
  have hjl := (List.getElem?_eq_some_iff.1 hj).1
  rcases hv with rfl | rfl
  · refine ⟨⟨by omega, by omega⟩, ?_⟩
    refine ⟨fun q s => ∃ (i : Nat) (j : Int) (zs : List Int) (T : List PV), s = ⟨T, σ.set jv (.live 3 (zs.map pn)), k0⟩ ∧ Gt T 28 [(0, .own jv 0 n n 1), (2, pn i), (3, pn j)] ∧ q = n - i ∧ (j = n - 1 - i ∧ i ≤ n) ∧ Hid (Rv xs zs i), ⟨_, ci ⟨0, _, xs, _, by rw [rv_same hj], ⟨rfl, rfl, rfl, rfl, trivial⟩, rfl, ⟨by omega, by omega⟩, ⟨rv_zero xs⟩⟩⟩, ?_⟩
    rintro q s ⟨i, j, zs, T, rfl, hT, hq, ⟨hji, hin⟩, hR⟩
    obtain ⟨J, rfl⟩ := gt_open hT
    clear hT
    have hzl : zs.length = n := by rw [hR.h.1]; exact hl
    have hat : (σ.set jv (.live 3 (zs.map pn)))[jv]? = some (.live 3 (zs.map pn)) := List.getElem?_set_self hjl
    have hc1 := contOf_live hat
    refine ⟨fun hlt => ?_, fun hge => ?_⟩
    · obtain ⟨m, rfl⟩ : ∃ m : Nat, j = m := ⟨j.toNat, by omega⟩
      obtain ⟨x, hx⟩ := xs_get (xs := zs) (i := i) (by omega)
      obtain ⟨y, hy⟩ := xs_get (xs := zs) (i := m) (by omega)
      refine ⟨by kernel_rfl, ?_⟩
      refine ⟨⟨by omega, by omega⟩, ?_⟩
      refine ⟨_, load_k rfl rfl hc1 (at_map hy) (by show 0 + _ * 1 = m; omega), rfl, ?_⟩
      refine ⟨⟨by omega, by omega⟩, ?_⟩
      refine ⟨_, load_k rfl rfl hc1 (at_map hx) (by show 0 + _ * 1 = i; omega), rfl, ?_⟩
      refine ⟨⟨by omega, by omega⟩, ?_⟩
      refine ⟨_, _, hat, ⟨rfl, by rw [List.length_map]; show 0 + (i : Int).toNat * 1 + 1 ≤ _; omega, rfl⟩, _, int_put (j := i) (by show 0 + _ * 1 = i; omega) (by omega), _, rfl, ?_⟩
      refine ⟨⟨by omega, by omega⟩, ?_⟩
      refine ⟨_, _, List.getElem?_set_self (by rw [List.length_set]; exact hjl), ⟨rfl, by rw [List.length_map, List.length_set]; show 0 + (m : Int).toNat * 1 + 1 ≤ _; omega, rfl⟩, _, int_put (j := m) (by show 0 + _ * 1 = m; omega) (by rw [List.length_set]; omega), _, by rw [List.set_set, List.set_set], ?_⟩
      refine ⟨⟨by omega, by omega⟩, ?_⟩
      refine ⟨⟨by omega, by omega⟩, ?_⟩
      exact ⟨_, by omega, ci ⟨i + 1, (m : Int) - 1, _, _, rfl, ⟨rfl, rfl, by show pn _ = pn _; norm_cast, rfl, trivial⟩, rfl, ⟨by omega, by omega⟩, ⟨rv_step hR.h (by omega) (by omega) hx hy⟩⟩⟩
    · have he := rv_end hR.h (by omega)
      refine endm [] (by dsimp only; omega) ?_
      rw [he]
      exact ⟨rfl, rfl⟩
  · refine ⟨⟨by omega, by omega⟩, ?_⟩
    refine ⟨fun q s => ∃ (i : Nat) (j : Int) (zs : List Int) (T : List PV), s = ⟨T, σ.set jv (.live 3 (zs.map pn)), k0⟩ ∧ Gt T 28 [(0, .ownu jv n 1), (2, pn i), (3, pn j)] ∧ q = n - i ∧ (j = n - 1 - i ∧ i ≤ n) ∧ Hid (Rv xs zs i), ⟨_, ci ⟨0, _, xs, _, by rw [rv_same hj], ⟨rfl, rfl, rfl, rfl, trivial⟩, rfl, ⟨by omega, by omega⟩, ⟨rv_zero xs⟩⟩⟩, ?_⟩
    rintro q s ⟨i, j, zs, T, rfl, hT, hq, ⟨hji, hin⟩, hR⟩
    obtain ⟨J, rfl⟩ := gt_open hT
    clear hT
    have hzl : zs.length = n := by rw [hR.h.1]; exact hl
    have hat : (σ.set jv (.live 3 (zs.map pn)))[jv]? = some (.live 3 (zs.map pn)) := List.getElem?_set_self hjl
    have hc1 := contOf_live hat
    refine ⟨fun hlt => ?_, fun hge => ?_⟩
    · obtain ⟨m, rfl⟩ : ∃ m : Nat, j = m := ⟨j.toNat, by omega⟩
      obtain ⟨x, hx⟩ := xs_get (xs := zs) (i := i) (by omega)
      obtain ⟨y, hy⟩ := xs_get (xs := zs) (i := m) (by omega)
      refine ⟨by kernel_rfl, ?_⟩
      refine ⟨⟨by omega, by omega⟩, ?_⟩
      refine ⟨_, load_k rfl rfl hc1 (at_map hy) (by show 0 + _ * 1 = m; omega), rfl, ?_⟩
      refine ⟨⟨by omega, by omega⟩, ?_⟩
      refine ⟨_, load_k rfl rfl hc1 (at_map hx) (by show 0 + _ * 1 = i; omega), rfl, ?_⟩
      refine ⟨⟨by omega, by omega⟩, ?_⟩
      refine ⟨_, _, hat, ⟨rfl, by rw [List.length_map]; show 0 + (i : Int).toNat * 1 + 1 ≤ _; omega, rfl⟩, _, int_put (j := i) (by show 0 + _ * 1 = i; omega) (by omega), _, rfl, ?_⟩
      refine ⟨⟨by omega, by omega⟩, ?_⟩
      refine ⟨_, _, List.getElem?_set_self (by rw [List.length_set]; exact hjl), ⟨rfl, by rw [List.length_map, List.length_set]; show 0 + (m : Int).toNat * 1 + 1 ≤ _; omega, rfl⟩, _, int_put (j := m) (by show 0 + _ * 1 = m; omega) (by rw [List.length_set]; omega), _, by rw [List.set_set, List.set_set], ?_⟩
      refine ⟨⟨by omega, by omega⟩, ?_⟩
      refine ⟨⟨by omega, by omega⟩, ?_⟩
      exact ⟨_, by omega, ci ⟨i + 1, (m : Int) - 1, _, _, rfl, ⟨rfl, rfl, by show pn _ = pn _; norm_cast, rfl, trivial⟩, rfl, ⟨by omega, by omega⟩, ⟨rv_step hR.h (by omega) (by omega) hx hy⟩⟩⟩
    · have he := rv_end hR.h (by omega)
      refine endm [] (by dsimp only; omega) ?_
      rw [he]
      exact ⟨rfl, rfl⟩
theorem reverse_nil (hS : OldO S) {σ : List StB} : Cm (ctx.plus S) 125 [.nils] σ 0 fun w σ' => w = .tup [] ∧ σ' = σ := by
  refine cm_of Opn.no (hS 125 (by decide)) fn125 fun c k0 hc => ?_
  refine ⟨⟨by omega, by omega⟩, ?_⟩
  refine ⟨fun q s => ∃ (T : List PV), s = ⟨T, σ, k0⟩ ∧ Gt T 28 [(0, .nils), (2, pn 0), (3, pn (-1))] ∧ q = 0, ⟨_, ci ⟨_, rfl, ⟨rfl, rfl, rfl, rfl, trivial⟩, rfl⟩⟩, ?_⟩
  rintro q s ⟨T, rfl, hT, hq⟩
  obtain ⟨J, rfl⟩ := gt_open hT
  clear hT
  refine ⟨fun hlt => absurd hlt (by decide), fun hge => ?_⟩
  refine endm [] (by dsimp only; omega) ?_
  exact ⟨rfl, rfl⟩
def ords (M : List (List Int)) : List Int := M.map fun l => (l.length : Int) - 1
theorem acc_count {n : Nat} {M : List (List Int)} {v : Nat} : ∀ {j : Nat}, j ≤ n + 1 → (accTo n M j).count (v : Int) = if v ≤ n ∧ n < v + j then cntI M (v + 1) else 0
  | 0, _ => by rw [if_neg (by omega)]; rfl
  | j + 1, hj => by
    rw [acc_succ, List.count_append, acc_count (by omega), List.count_replicate]
    by_cases e : v = n - j
    · rw [if_neg (by omega), if_pos (by simp; omega), if_pos (by omega), Nat.zero_add, e]
    · rw [if_neg (show ¬ ((((n - j : Nat) : Int) == (v : Int)) = true) by simp; omega), Nat.add_zero]
      by_cases e2 : v ≤ n ∧ n < v + j
      · rw [if_pos e2, if_pos (by omega)]
      · rw [if_neg e2, if_neg (by omega)]
theorem acc_nonneg {n : Nat} {M : List (List Int)} {j : Nat} {x : Int} (h : x ∈ accTo n M j) : ∃ i, i < j ∧ x = ((n - i : Nat) : Int) := by
  unfold accTo at h
  obtain ⟨i, hi, hx⟩ := List.mem_flatMap.1 h
  exact ⟨i, List.mem_range.1 hi, List.eq_of_mem_replicate hx⟩
theorem ords_count {M : List (List Int)} {v : Nat} : (ords M).count (v : Int) = cntI M (v + 1) := by
  unfold ords cntI
  rw [List.count_eq_length_filter, List.filter_map, List.length_map]
  congr 1
  apply List.filter_congr
  intro l _
  simp only [Function.comp]
  by_cases h : l.length = v + 1
  · simp [h]
  · simp [h]; omega
theorem acc_perm {n : Nat} {M : List (List Int)} (h : ∀ l ∈ M, l.length ≤ n ∧ 0 < l.length) : (accTo n M (n + 1)).Perm (ords M) := by
  rw [List.perm_iff_count]
  intro x
  by_cases hx : 0 ≤ x ∧ x ≤ n
  · obtain ⟨v, rfl⟩ : ∃ v : Nat, x = v := ⟨x.toNat, by omega⟩
    rw [acc_count (Nat.le_refl _), if_pos (by omega), ords_count]
  · rw [List.count_eq_zero.2, List.count_eq_zero.2]
    · intro hm
      obtain ⟨l, hl, rfl⟩ := List.mem_map.1 hm
      have := h l hl
      omega
    · intro hm
      obtain ⟨i, hi, rfl⟩ := acc_nonneg hm
      omega
theorem acc_pw {n : Nat} {M : List (List Int)} : ∀ {j : Nat}, j ≤ n + 1 → (accTo n M j).Pairwise fun a b => b ≤ a
  | 0, _ => List.Pairwise.nil
  | j + 1, hj => by
    rw [acc_succ]
    refine List.pairwise_append.2 ⟨acc_pw (by omega), ?_, fun a ha b hb => ?_⟩
    · rw [List.pairwise_replicate]; exact .inr (Int.le_refl _)
    · obtain ⟨i, hi, rfl⟩ := acc_nonneg ha
      rw [List.eq_of_mem_replicate hb]
      omega
theorem ords_sorted {n : Nat} {M : List (List Int)} {zs : List Int} (h : ∀ l ∈ M, l.length ≤ n ∧ 0 < l.length) (hp : zs.Perm (ords M)) (hs : Srt zs zs.length) : zs.reverse = accTo n M (n + 1) := by
  have h1 : zs.reverse.Perm (accTo n M (n + 1)) := (List.reverse_perm zs).trans (hp.trans (acc_perm h).symm)
  have h2 : zs.Pairwise (· ≤ ·) := by
    rw [List.pairwise_iff_getElem]
    intro i j hi hj hij
    exact hs i j hij hj _ _ (List.getElem?_eq_getElem hi) (List.getElem?_eq_getElem hj)
  have h3 : zs.reverse.Pairwise fun a b => b ≤ a := List.pairwise_reverse.2 h2
  exact List.Perm.eq_of_pairwise (le := fun a b : Int => b ≤ a) (fun a b _ _ h1 h2 => by omega) h3 (acc_pw (Nat.le_refl _)) h1
end Go.PI
/- A LATTICE AND A VECTOR, of the program. -/
open Go.Proofs
namespace Go.PI
open IM
set_option maxRecDepth 10000
set_option maxHeartbeats 4000000
variable (S : FuncId → Option (List AV → Heap → Option (AV × Heap)))
def eucP (b c x y : Int) : Nat := x.natAbs * c.natAbs + b.natAbs * y.natAbs
theorem euc_step {b c x y k : Int} {w K : Nat} (hy : y ≠ 0) (hw : 1 ≤ w) (hk : k.natAbs * y.natAbs + (c - k * y).natAbs ≤ w * c.natAbs) (hP : w * eucP b c x y ≤ K) : eucP x y (b - k * x) (c - k * y) ≤ K ∧ (b - k * x).natAbs ≤ K ∧ (k * x).natAbs ≤ K := by
  unfold eucP at hP ⊢
  obtain ⟨R, hR⟩ : ∃ R, (c - k * y).natAbs = R := ⟨_, rfl⟩
  rw [hR] at hk ⊢
  have hY : 1 ≤ y.natAbs := by omega
  have h1 : (b - k * x).natAbs ≤ b.natAbs + k.natAbs * x.natAbs := by
    rw [← Int.natAbs_mul]; omega
  have h2 : (k * x).natAbs = k.natAbs * x.natAbs := Int.natAbs_mul _ _
  have h3 : (b.natAbs + k.natAbs * x.natAbs) * y.natAbs + x.natAbs * R ≤ K := by
    have e1 : k.natAbs * x.natAbs * y.natAbs = x.natAbs * (k.natAbs * y.natAbs) := by rw [Nat.mul_comm k.natAbs, Nat.mul_assoc]
    have e2 := Nat.mul_le_mul_left x.natAbs hk
    rw [Nat.mul_add] at e2
    have e3 : x.natAbs * (w * c.natAbs) = w * (x.natAbs * c.natAbs) := by rw [← Nat.mul_assoc, Nat.mul_comm x.natAbs w, Nat.mul_assoc]
    have e4 : b.natAbs * y.natAbs ≤ w * (b.natAbs * y.natAbs) := Nat.le_mul_of_pos_left _ (by omega)
    rw [Nat.mul_add] at hP
    rw [Nat.add_mul, e1]
    omega
  have h4 : b.natAbs + k.natAbs * x.natAbs ≤ (b.natAbs + k.natAbs * x.natAbs) * y.natAbs := Nat.le_mul_of_pos_right _ hY
  have h5 := Nat.mul_le_mul_right y.natAbs h1
  refine ⟨by omega, by omega, by omega⟩
structure Euc (A B C X Y b c x y : Int) (N : Nat) : Prop where
  sp : ∀ u v, Spn A b c x y u v ↔ Spn A B C X Y u v
  hx : x.natAbs ≤ N
  hb : b.natAbs ≤ N
  hc : c.natAbs ≤ 12
  hy : y.natAbs ≤ 12
  hz : c = 0 → b = 0
def lat (A B C : Int) : PV := .agg [pn A, pn B, pn C]
theorem mod_pos {b A : Int} (hA : 0 < A) : ∃ t, (b.tmod A + A).tmod A = b - t * A ∧ 0 ≤ (b.tmod A + A).tmod A ∧ (b.tmod A + A).tmod A < A := by
  obtain ⟨t1, t2, t3, t4, -⟩ := tqm (p := b) (q := A) (by omega)
  obtain ⟨s1, s2, s3, s4, -⟩ := tqm (p := b.tmod A + A) (q := A) (by omega)
  have h0 := s2 (by omega)
  refine ⟨b.tdiv A + (b.tmod A + A).tdiv A - 1, ?_, h0, by omega⟩
  rw [Int.sub_mul, Int.add_mul, Int.mul_comm _ A, Int.mul_comm _ A]
  omega
theorem nf_small {A B C : Int} (h : NFm A B C) (hb : Bdl A B C) : C.natAbs ≤ 12 ∧ (A = 0 → B.natAbs ≤ 12) ∧ B.natAbs ≤ 900 ∧ A.natAbs ≤ 900 := by
  have h1 := h.c
  have h2 := h.a
  have h3 := hb.c
  have h4 := hb.a
  refine ⟨by omega, hb.b, ?_, by omega⟩
  by_cases e : A = 0
  · have := hb.b e; omega
  · have := h.b (by omega); omega
theorem eucP_le {b c x y : Int} {B : Nat} (hb : b.natAbs ≤ B) (hc : c.natAbs ≤ 12) (hx : x.natAbs ≤ 12) (hy : y.natAbs ≤ 12) : eucP b c x y ≤ 144 + B * 12 := by
  unfold eucP
  have := Nat.mul_le_mul hx hc
  have := Nat.mul_le_mul hb hy
  omega
theorem fn126 : ctx.fn 126 = some c126 := by kernel_rfl
theorem spanned_ct (hS : OldO S) {A B C X Y : Int} (hn : NFm A B C) (hb : Bdl A B C) (hX : X.natAbs ≤ 12) (hY : Y.natAbs ≤ 12) :
    Ct (ctx.plus S) 126 [lat A B C, pn X, pn Y] 5 fun w => ∃ A' B' C', w = lat A' B' C' ∧ NFm A' B' C' ∧ Bdl A' B' C' ∧ ∀ u v, Ltt A' B' C' u v ↔ Spn A B C X Y u v := by
  obtain ⟨q1, q2, q3, q4⟩ := nf_small hn hb
  obtain ⟨N, hN, hN1, hN2⟩ : ∃ N : Nat, (eucP B C X Y ≤ N ∧ B.natAbs ≤ N ∧ X.natAbs ≤ N) ∧ N ≤ 11000 ∧ (A = 0 → N ≤ 900) := by
    by_cases e : A = 0
    · have := eucP_le (q2 e) q1 hX hY
      have := q2 e
      exact ⟨300, ⟨by omega, by omega, by omega⟩, by omega, fun _ => by omega⟩
    · have := eucP_le q3 q1 hX hY
      exact ⟨11000, ⟨by omega, by omega, by omega⟩, by omega, fun h => absurd h e⟩
  refine ct_of (hS 126 (by decide)) fn126 ?_
  refine ⟨by omega, by omega, ?_⟩
  refine ⟨fun q s => ∃ (b c x y : Int) (T : List PV), s = ⟨T, [.live 60 [pn A, pn b, pn c], .live 60 [pn 0, pn 0, pn 0]], 2⟩ ∧ Gt T 62 [(1, pn x), (2, pn y), (3, .optr 0 0), (6, .optr 1 0)] ∧ q = y.natAbs ∧ Hid (Euc A B C X Y b c x y N ∧ eucP b c x y ≤ N), ⟨_, ci ⟨B, C, X, Y, _, rfl, ⟨rfl, rfl, rfl, rfl, rfl, trivial⟩, rfl, ⟨⟨fun _ _ => Iff.rfl, hN.2.2, hN.2.1, q1, hY, hn.z⟩, hN.1⟩⟩⟩, ?_⟩
  rintro _ s ⟨b, c, x, y, T, rfl, hT, rfl, hh⟩
  obtain ⟨J, rfl⟩ := gt_open hT
  clear hT
  obtain ⟨hE, hP⟩ := hh.h
  clear hh
  refine ⟨fun hy => ?_, fun hy => ?_⟩
  · obtain ⟨t1, t2, t3, t4, t5⟩ := tqm (p := c) (q := y) hy
    obtain ⟨k, hk⟩ : ∃ k, c.tdiv y = k := ⟨_, rfl⟩
    rw [hk] at t1 t5
    have hcy := hE.hc
    have hyy := hE.hy
    have hbb := hE.hb
    have hxx := hE.hx
    have hr : c - k * y = c.tmod y := by rw [Int.mul_comm]; omega
    have hky : k.natAbs * y.natAbs + (c - k * y).natAbs ≤ 1 * c.natAbs := by
      rw [hr, ← hk, Int.natAbs_tdiv, Int.natAbs_tmod]
      show c.natAbs / y.natAbs * y.natAbs + c.natAbs % y.natAbs ≤ 1 * c.natAbs
      rw [Nat.mul_comm (c.natAbs / y.natAbs), Nat.div_add_mod, Nat.one_mul]
      exact Nat.le_refl _
    obtain ⟨p1, p2, p3⟩ := euc_step (K := N) hy (Nat.le_refl 1) hky (by rw [Nat.one_mul]; exact hP)
    have hky2 : (k * y).natAbs ≤ 12 := by rw [Int.natAbs_mul]; exact Nat.le_trans (Nat.le_trans (Nat.le_add_right _ _) hky) (by rw [Nat.one_mul]; exact hcy)
    refine ⟨_, rfl, ?_⟩
    refine ⟨⟨hy, by rw [hk]; unfold In64; omega⟩, ?_⟩
    rw [hk]
    refine ⟨_, rfl, ?_⟩
    refine ⟨by unfold In64; omega, ?_⟩
    refine ⟨by unfold In64; omega, ?_⟩
    refine ⟨_, rfl, ?_⟩
    refine ⟨by unfold In64; omega, ?_⟩
    refine ⟨by unfold In64; omega, ?_⟩
    refine ⟨_, _, rfl, ⟨rfl, Nat.le_of_ble_eq_true rfl, rfl⟩, _, rfl, _, rfl, ?_⟩
    refine ⟨_, _, rfl, ⟨rfl, Nat.le_of_ble_eq_true rfl, rfl⟩, _, rfl, _, rfl, ?_⟩
    refine ⟨(c - k * y).natAbs, by rw [hr]; omega, ci ⟨x, y, b - k * x, c - k * y, _, rfl, ⟨rfl, rfl, rfl, rfl, rfl, trivial⟩, rfl, ⟨⟨fun u v => spn_step.trans (hE.sp u v), by omega, hxx, hyy, by rw [hr]; omega, fun h => absurd h hy⟩, p1⟩⟩⟩
  · subst hy
    have hbb := hE.hb
    have hxx := hE.hx
    have hcc := hE.hc
    refine ⟨_, rfl, ?_⟩
    refine callq rfl (gcd_ct S hS (by omega) (by omega)) (by omega) ?_
    rintro _ rfl
    obtain ⟨G, hG⟩ : ∃ G : Nat, Nat.gcd A.natAbs x.natAbs = G := ⟨_, rfl⟩
    have hsp : ∀ u v, Ltt (G : Int) b c u v ↔ Spn A B C X Y u v := fun u v => by rw [← hG]; exact spn_end.symm.trans (hE.sp u v)
    have hG0 : A = 0 → (G : Int) ≤ 900 := fun e => by
      have h9 := hN2 e
      rw [← hG, e]
      show ((Nat.gcd 0 x.natAbs : Nat) : Int) ≤ 900
      rw [Nat.gcd_zero_left]; omega
    rw [hG]
    have fin : ∀ b2 c2 : Int, (c2 = 0 → b2 = 0) → 0 ≤ c2 → c2.natAbs ≤ 12 → (∀ u v, Ltt (G : Int) b2 c2 u v ↔ Spn A B C X Y u v) → ((G : Int) ≤ 0 → NFm G b2 c2 ∧ Bdl G b2 c2) ∧ (0 < (G : Int) → ∃ t, (b2.tmod G + G).tmod G = b2 - t * G ∧ NFm G (b2 - t * G) c2 ∧ Bdl G (b2 - t * G) c2 ∧ ∀ u v, Ltt (G : Int) (b2 - t * G) c2 u v ↔ Spn A B C X Y u v) := fun b2 c2 hz h0 h12 hs => by
      refine ⟨fun hg => ?_, fun hg => ?_⟩
      · have hN' : NFm G b2 c2 := ⟨by omega, h0, fun h => by omega, hz⟩
        exact ⟨hN', bd_next hn hb hN' hX hY hs hG0⟩
      · obtain ⟨t, m1, m2, m3⟩ := mod_pos (b := b2) hg
        rw [m1] at m2 m3
        have hs2 : ∀ u v, Ltt (G : Int) (b2 - t * G) c2 u v ↔ Spn A B C X Y u v := fun u v => ltt_mod.trans (hs u v)
        have hN' : NFm G (b2 - t * G) c2 := ⟨by omega, h0, fun _ => ⟨m2, m3⟩, fun h => by
          have hb0 := hz h
          subst hb0
          have := Int.emod_eq_of_lt m2 m3
          rw [Int.zero_sub, ← Int.neg_mul, Int.mul_emod_left] at this
          rw [Int.zero_sub, ← Int.neg_mul]
          omega⟩
        exact ⟨t, m1, hN', bd_next hn hb hN' hX hY hs2 hG0, hs2⟩
    refine ⟨_, _, rfl, ⟨rfl, Nat.le_of_ble_eq_true rfl, rfl⟩, _, rfl, _, rfl, ?_⟩
    refine ⟨_, rfl, ?_⟩
    refine ⟨fun hneg => ?_, fun hpos => ?_⟩
    · obtain ⟨f1, f2⟩ := fin (0 - b) (0 - c) (fun h => by have := hE.hz (by omega); omega) (by omega) (by omega) fun u v => by rw [Int.zero_sub, Int.zero_sub]; exact ltt_neg.trans (hsp u v)
      refine ⟨_, rfl, ?_⟩
      refine ⟨⟨by omega, by omega⟩, ?_⟩
      refine ⟨_, rfl, ?_⟩
      refine ⟨⟨by omega, by omega⟩, ?_⟩
      refine ⟨_, _, rfl, ⟨rfl, Nat.le_of_ble_eq_true rfl, rfl⟩, _, rfl, _, rfl, ?_⟩
      refine ⟨_, _, rfl, ⟨rfl, Nat.le_of_ble_eq_true rfl, rfl⟩, _, rfl, _, rfl, ?_⟩
      refine ⟨_, rfl, ?_⟩
      refine ⟨fun hg => ?_, fun hg => ?_⟩
      · obtain ⟨t, m1, m2, m3, m4⟩ := f2 hg
        obtain ⟨-, -, -, r4, -⟩ := tqm (p := (0 - b)) (q := (G : Int)) (by omega)
        have hG9 := m3.a
        refine ⟨by kernel_rfl, ?_⟩
        refine ⟨_, rfl, rfl, ?_⟩
        refine ⟨_, rfl, rfl, ?_⟩
        refine ⟨by omega, ?_⟩
        refine ⟨_, rfl, rfl, ?_⟩
        refine ⟨⟨by omega, by omega⟩, ?_⟩
        refine ⟨_, rfl, rfl, ?_⟩
        refine ⟨by omega, ?_⟩
        refine ⟨_, _, rfl, ⟨rfl, Nat.le_of_ble_eq_true rfl, rfl⟩, _, rfl, _, rfl, ?_⟩
        refine ⟨_, rfl, ?_⟩
        refine ⟨_, _, rfl, ⟨rfl, Nat.le_of_ble_eq_true rfl, rfl⟩, _, rfl, _, rfl, ?_⟩
        refine ⟨_, rfl, ?_⟩
        exact endq rfl ⟨G, (0 - b) - t * G, (0 - c), by show PV.agg [pn G, pn (((0 - b).tmod G + G).tmod G), pn (0 - c)] = _; rw [m1]; rfl, m2, m3, m4⟩
      · obtain ⟨m2, m3⟩ := f1 hg
        refine ⟨_, rfl, ?_⟩
        refine ⟨_, _, rfl, ⟨rfl, Nat.le_of_ble_eq_true rfl, rfl⟩, _, rfl, _, rfl, ?_⟩
        refine ⟨_, rfl, ?_⟩
        exact endq rfl ⟨G, (0 - b), (0 - c), rfl, m2, m3, fun u v => by rw [Int.zero_sub, Int.zero_sub]; exact ltt_neg.trans (hsp u v)⟩
    · obtain ⟨f1, f2⟩ := fin b c hE.hz hpos hcc hsp
      refine ⟨_, rfl, ?_⟩
      refine ⟨fun hg => ?_, fun hg => ?_⟩
      · obtain ⟨t, m1, m2, m3, m4⟩ := f2 hg
        obtain ⟨-, -, -, r4, -⟩ := tqm (p := b) (q := (G : Int)) (by omega)
        have hG9 := m3.a
        refine ⟨by kernel_rfl, ?_⟩
        refine ⟨_, rfl, rfl, ?_⟩
        refine ⟨_, rfl, rfl, ?_⟩
        refine ⟨by omega, ?_⟩
        refine ⟨_, rfl, rfl, ?_⟩
        refine ⟨⟨by omega, by omega⟩, ?_⟩
        refine ⟨_, rfl, rfl, ?_⟩
        refine ⟨by omega, ?_⟩
        refine ⟨_, _, rfl, ⟨rfl, Nat.le_of_ble_eq_true rfl, rfl⟩, _, rfl, _, rfl, ?_⟩
        refine ⟨_, rfl, ?_⟩
        refine ⟨_, _, rfl, ⟨rfl, Nat.le_of_ble_eq_true rfl, rfl⟩, _, rfl, _, rfl, ?_⟩
        refine ⟨_, rfl, ?_⟩
        exact endq rfl ⟨G, b - t * G, c, by show PV.agg [pn G, pn ((b.tmod G + G).tmod G), pn c] = _; rw [m1]; rfl, m2, m3, m4⟩
      · obtain ⟨m2, m3⟩ := f1 hg
        refine ⟨_, rfl, ?_⟩
        refine ⟨_, _, rfl, ⟨rfl, Nat.le_of_ble_eq_true rfl, rfl⟩, _, rfl, _, rfl, ?_⟩
        refine ⟨_, rfl, ?_⟩
        exact endq rfl ⟨G, b, c, rfl, m2, m3, hsp⟩
end Go.PI
/- MAPS OF SQUARES: two ways to find the one that takes square 0 to a square. -/
open Go.Proofs
namespace Go.PI
open IM
inductive Jr (f g F G : Nat → Nat) (s : Nat) : Nat → Nat → Prop
  | base : Jr f g F G s 0 s
  | f {y z : Nat} (h : Jr f g F G s y z) : Jr f g F G s (f y) (F z)
  | g {y z : Nat} (h : Jr f g F G s y z) : Jr f g F G s (g y) (G z)
structure MapAt (n m s : Nat) (f g F G h : Nat → Nat) : Prop where
  z : h 0 = s
  lt : ∀ x, x < n → h x < m
  c : ∀ x, x < n → h (f x) = F (h x) ∧ h (g x) = G (h x)
section
variable {n m s : Nat} {f f' g g' F F' G G' h : Nat → Nat}
theorem jr_lt (pf : IsP n f f') (pg : IsP n g g') (pF : IsP m F F') (pG : IsP m G G') (h0 : 0 < n) (hs : s < m) {y z : Nat} (hj : Jr f g F G s y z) : y < n ∧ z < m := by
  induction hj with
  | base => exact ⟨h0, hs⟩
  | f _ ih => exact ⟨pf.lt _ ih.1, pF.lt _ ih.2⟩
  | g _ ih => exact ⟨pg.lt _ ih.1, pG.lt _ ih.2⟩
end
structure BM (n s : Nat) (f g F G : Nat → Nat) (D Q : List Int) : Prop where
  len : D.length = n
  ql : Q.length + D.count (-1) ≤ n
  bd : ∀ (w : Nat) (d : Int), D[w]? = some d → d = -1 ∨ ∃ z : Nat, d = z ∧ Jr f g F G s w z
  st : D[0]? = some (s : Int)
  q : ∀ v ∈ Q, ∃ w : Nat, v = w ∧ ∃ d : Nat, D[w]? = some (d : Int)
  cl : ∀ (w d : Nat), D[w]? = some (d : Int) → (w : Int) ∉ Q → D[f w]? = some (F d : Int) ∧ D[g w]? = some (G d : Int)
section
variable {n m s : Nat} {f f' g g' F F' G G' h : Nat → Nat} {D Q : List Int}
theorem cnt_set {D : List Int} {z : Nat} {a : Int} (hz : D[z]? = some (-1)) (ha : a ≠ -1) : (D.set z a).count (-1) + 1 = D.count (-1) := by
  obtain ⟨h1, h2⟩ := List.getElem?_eq_some_iff.1 hz
  have hm : (-1 : Int) ∈ D := List.mem_of_getElem? hz
  have hp := List.count_pos_iff.2 hm
  rw [List.count_set h1, h2]
  simp only [beq_self_eq_true, if_true]
  rw [if_neg (by simpa using ha)]
  omega
theorem bm_get {z q : Nat} {a : Int} {e : Nat} (hz : D[z]? = some (-1)) (hq : D[q]? = some (e : Int)) : (D.set z a)[q]? = some (e : Int) := by
  have hqz : z ≠ q := fun e2 => by subst e2; rw [hz] at hq; have := Option.some.inj hq; omega
  rw [List.getElem?_set_ne hqz]; exact hq
theorem BM.put (h : BM n s f g F G D Q) {z e : Nat} (hz : D[z]? = some (-1)) (hj : Jr f g F G s z e) : BM n s f g F G (D.set z (e : Int)) (Q ++ [(z : Int)]) := by
  have hzl := (List.getElem?_eq_some_iff.1 hz).1
  have hc := cnt_set hz (a := (e : Int)) (by omega)
  have hset : ∀ (q : Nat) (x : Int), (D.set z (e : Int))[q]? = some x → (q = z ∧ x = e) ∨ (q ≠ z ∧ D[q]? = some x) := fun q x hq => by
    by_cases hqz : q = z
    · subst hqz
      rw [List.getElem?_set_self hzl] at hq
      exact .inl ⟨rfl, (Option.some.inj hq).symm⟩
    · rw [List.getElem?_set_ne (fun e => hqz e.symm)] at hq
      exact .inr ⟨hqz, hq⟩
  refine ⟨by rw [List.length_set]; exact h.len, by have := h.ql; simp only [List.length_append, List.length_cons, List.length_nil]; omega, fun q x hq => ?_, bm_get hz h.st, fun v hv => ?_, fun q x hq hnq => ?_⟩
  · rcases hset q x hq with ⟨rfl, rfl⟩ | ⟨-, hq⟩
    · exact .inr ⟨e, rfl, hj⟩
    · exact h.bd q x hq
  · rcases List.mem_append.1 hv with hv | hv
    · obtain ⟨w, rfl, d, hd⟩ := h.q v hv
      exact ⟨w, rfl, d, bm_get hz hd⟩
    · rw [List.mem_singleton.1 hv]
      exact ⟨z, rfl, e, List.getElem?_set_self hzl⟩
  · rcases hset q _ hq with ⟨rfl, -⟩ | ⟨-, hq⟩
    · exact absurd (by simp) hnq
    · obtain ⟨a1, a2⟩ := h.cl q x hq fun hm => hnq (by simp [hm])
      exact ⟨bm_get hz a1, bm_get hz a2⟩
theorem BM.pop {w d : Nat} (h : BM n s f g F G D ((w : Int) :: Q)) (hd : D[w]? = some (d : Int)) (h1 : D[f w]? = some (F d : Int)) (h2 : D[g w]? = some (G d : Int)) : BM n s f g F G D Q := by
  refine ⟨h.len, by have := h.ql; simp only [List.length_cons] at this; omega, h.bd, h.st, fun v hv => h.q v (List.mem_cons_of_mem _ hv), fun q x hq hnq => ?_⟩
  by_cases e : q = w
  · subst e
    rw [hd] at hq
    have : x = d := by have := Option.some.inj hq; omega
    subst this
    exact ⟨h1, h2⟩
  · exact h.cl q x hq fun hm => by
      rcases List.mem_cons.1 hm with hm | hm
      · omega
      · exact hnq hm
theorem BM.start (h0 : 0 < n) : BM n s f g F G ((List.replicate n (-1 : Int)).set 0 (s : Int)) [0] := by
  obtain ⟨k, rfl⟩ : ∃ k, n = k + 1 := ⟨n - 1, by omega⟩
  rw [List.replicate_succ, List.set_cons_zero]
  refine ⟨by simp, ?_, fun w d hw => ?_, rfl, fun v hv => ?_, fun w d hw hn => ?_⟩
  · rw [List.count_cons_of_ne (by omega), List.count_replicate_self]
    simp; omega
  · cases w with
    | zero =>
      have := Option.some.inj hw
      exact .inr ⟨s, this.symm, .base⟩
    | succ w =>
      rw [List.getElem?_cons_succ, List.getElem?_replicate] at hw
      split at hw
      · exact .inl (Option.some.inj hw).symm
      · cases hw
  · rw [List.mem_singleton.1 hv]
    exact ⟨0, rfl, s, rfl⟩
  · cases w with
    | zero => exact absurd (by simp) hn
    | succ w =>
      rw [List.getElem?_cons_succ, List.getElem?_replicate] at hw
      split at hw
      · have := Option.some.inj hw; omega
      · cases hw
theorem BM.fin (pf : IsP n f f') (pg : IsP n g g') (pF : IsP m F F') (pG : IsP m G G') (h0 : 0 < n) (hs : s < m) (hcn : Conn n f g) (h : BM n s f g F G D []) : ∃ k, MapAt n m s f g F G k ∧ D = PL n k := by
  have key : ∀ y, Rch f g 0 y → ∃ d : Nat, D[y]? = some (d : Int) := fun y hr => by
    induction hr with
    | refl => exact ⟨s, h.st⟩
    | @f y _ ih => obtain ⟨d, hd⟩ := ih; exact ⟨_, (h.cl y d hd (by simp)).1⟩
    | @g y _ ih => obtain ⟨d, hd⟩ := ih; exact ⟨_, (h.cl y d hd (by simp)).2⟩
  have hk : ∀ y, y < n → D[y]? = some (((D.getD y 0).toNat : Nat) : Int) := fun y hy => by
    obtain ⟨d, hd⟩ := key y (hcn y hy)
    rw [List.getD_eq_getElem?_getD, hd]
    simp
  refine ⟨fun y => (D.getD y 0).toNat, ⟨?_, fun y hy => ?_, fun y hy => ?_⟩, ?_⟩
  · rw [List.getD_eq_getElem?_getD, h.st]; simp
  · rcases h.bd y _ (hk y hy) with hb | ⟨z, hz, hj⟩
    · omega
    · have := (jr_lt pf pg pF pG h0 hs hj).2
      omega
  · obtain ⟨a1, a2⟩ := h.cl y _ (hk y hy) (by simp)
    rw [hk _ (pf.lt y hy)] at a1
    rw [hk _ (pg.lt y hy)] at a2
    have := Option.some.inj a1
    have := Option.some.inj a2
    exact ⟨by omega, by omega⟩
  · apply List.ext_getElem?
    intro y
    by_cases hy : y < n
    · rw [hk y hy, PL_get hy]
    · rw [List.getElem?_eq_none (by rw [h.len]; omega), List.getElem?_eq_none (by rw [PL_len]; omega)]
end
end Go.PI
/- ONE NUMBER, repeated. -/
open Go.Proofs
namespace Go.PI
open IM
set_option maxRecDepth 20000
set_option maxHeartbeats 4000000
variable (S : FuncId → Option (List AV → Heap → Option (AV × Heap)))
abbrev pu (n : Int) : PV := .int .u64 n
end Go.PI
/- A MAP OF SQUARES found by a queue, of the program. -/
open Go.Proofs
namespace Go.PI
open IM
set_option maxRecDepth 10000
set_option maxHeartbeats 4000000
variable (S : FuncId → Option (List AV → Heap → Option (AV × Heap)))
theorem push_get' {σ : List StB} {b : StB} {j : Nat} (h : j = σ.length) : (σ ++ [b])[j]? = some b := by subst h; simp
def blkQ : PV → Option Nat
  | .own j _ _ _ _ => some j
  | .ownu j _ _ => some j
  | .ownq j _ _ _ => some j
  | _ => none
def Qu (v : PV) (σ : List StB) (Q : List Int) : Prop :=
  ∃ j o cs, σ[j]? = some (.live 3 cs) ∧ o + Q.length ≤ cs.length ∧ (cs.drop o).take Q.length = Q.map pn ∧ (v = .own j o Q.length Q.length 1 ∨ (v = .ownu j Q.length 1 ∧ o = 0) ∨ v = .ownq j o Q.length 1)
theorem Qu.keep {v : PV} {σ σ' : List StB} {Q : List Int} (h : Qu v σ Q) (k : ∀ j b, blkQ v = some j → σ[j]? = some b → σ'[j]? = some b) : Qu v σ' Q := by
  obtain ⟨j, o, cs, h1, h2, h3, h4⟩ := h
  refine ⟨j, o, cs, k j _ ?_ h1, h2, h3, h4⟩
  rcases h4 with rfl | ⟨rfl, -⟩ | rfl <;> rfl
theorem appQ {c k : Nat} {v : PV} {Q : List Int} {z : Int} {i m : Nat} {ty : TypeId} {σ : List StB} {K : PV → List StB → Nat → Prop} (hg : Qu v σ Q) (hx : contOf σ i = some (ty, [pn z])) (hl : Q.length ≤ 1000000) (hk : k < c)
    (hK : ∀ v' σ', Qu v' σ' (Q ++ [z]) → (∀ j b, blkQ v ≠ some j → σ[j]? = some b → σ'[j]? = some b) → blkQ v' = some σ.length → K v' σ' (k + 1)) : AppK (ctx.plus S) c k σ [22, 22] v (.own i 0 1 1 m) K := by
  refine ⟨?_⟩
  have hti : (ctx.plus S).ty 22 = some t22 := rfl
  have he : (ctx.plus S).ty 3 = some t3 := rfl
  have hd : decide (srcOk t22.desc = true ∧ t3.bytes ≤ 2 ^ 10) = true := rfl
  have htd : t22.desc = .slice 3 := rfl
  have hs : t3.size = 1 := rfl
  unfold pappK
  have e22 : t22 = { desc := .slice 3, size := t22.size, bytes := t22.bytes, zero := t22.zero } := rfl
  rw [e22] at hti hd
  simp only [hti, he]
  simp only [hd]
  refine ⟨ty, [pn z], [pn z], hx, by rw [hs]; simp, by rw [hs]; rfl, ⟨by decide, by simp [pones]; rfl⟩, ?_⟩
  obtain ⟨j, o, cs, h1, h2, h3, h4⟩ := hg
  have hnew : ∀ {σ' : List StB}, σ'.length = σ.length → Qu (.ownu σ.length (Q.length + 1) 1) (σ' ++ [.live 3 (Q.map pn ++ [pn z])]) (Q ++ [z]) := fun {σ'} h =>
    ⟨σ.length, 0, Q.map pn ++ [pn z], by rw [← h]; simp, by simp, by rw [List.drop_zero, List.take_of_length_le (by simp)]; simp, .inr (.inl ⟨by simp, rfl⟩)⟩
  have hold : ∀ {b : StB} {j : Nat} {x : StB}, σ[j]? = some x → (σ ++ [b])[j]? = some x := fun h => by rw [List.getElem?_append_left (List.getElem?_eq_some_iff.1 h).1]; exact h
  have hset : ∀ {b : StB} (j' : Nat) (x : StB), j ≠ j' → σ[j']? = some x → (σ.set j .dead ++ [b])[j']? = some x := fun {b} j' x hne hb => by
    rw [List.getElem?_append_left (by rw [List.length_set]; exact (List.getElem?_eq_some_iff.1 hb).1), List.getElem?_set_ne hne]
    exact hb
  rcases h4 with rfl | ⟨rfl, rfl⟩ | rfl
  · refine ⟨by omega, (fun h => by omega), fun _ => ⟨hk, 3, cs, Q.map pn ++ [pn z], contOf_live h1, by rw [hs]; omega, by rw [hs, Nat.mul_one, h3], ?_⟩⟩
    rw [hs]
    exact hK _ _ (hnew rfl) (fun j b _ hb => hold hb) rfl
  · refine ⟨⟨by omega, hs.symm, hk⟩, cs, Q.map pn ++ [pn z], h1, by rw [hs]; omega, by rw [hs, Nat.mul_one, ← h3, List.drop_zero], ?_⟩
    exact hK _ _ (hnew (by simp)) (fun j' b hj hb => hset j' b (fun e => hj (by rw [← e]; rfl)) hb) rfl
  · refine ⟨⟨⟨by omega, hs.symm, hk⟩, rfl⟩, cs, Q.map pn ++ [pn z], h1, by rw [hs]; omega, by rw [hs, Nat.mul_one, h3], ?_⟩
    exact hK _ _ (hnew (by simp)) (fun j' b hj hb => hset j' b (fun e => hj (by rw [← e]; rfl)) hb) rfl
theorem Qu.tail {j o : Nat} {σ : List StB} {Q : List Int} {a : Int} {cs : List PV} {v : PV} (h1 : σ[j]? = some (.live 3 cs)) (h2 : o + (a :: Q).length ≤ cs.length) (h3 : (cs.drop o).take (a :: Q).length = (a :: Q).map pn) (hv : v = .own j (if (a :: Q).length = 1 then o else o + 1) Q.length Q.length 1 ∨ v = .ownq j (o + 1) Q.length 1) : Qu v σ Q := by
  simp only [List.length_cons] at h2 h3 hv
  have h3' : (cs.drop (o + 1)).take Q.length = Q.map pn := by
    have := congrArg (List.drop 1) h3
    rw [List.drop_take, List.drop_drop] at this
    simpa using this
  rcases hv with hv | hv
  · by_cases e : Q.length + 1 = 1
    · rw [if_pos e] at hv
      have hq : Q = [] := List.length_eq_zero_iff.1 (by omega)
      subst hq
      exact ⟨j, o, cs, h1, by omega, by simp, .inl hv⟩
    · rw [if_neg e] at hv
      exact ⟨j, o + 1, cs, h1, by omega, h3', .inl hv⟩
  · exact ⟨j, o + 1, cs, h1, by omega, h3', .inr (.inr hv)⟩
end Go.PI
