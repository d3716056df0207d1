/- Own work of the verifier: OtI. -/
import Derived.Test.YtefajaiioljjoaaOvBA
import Derived.Test.YtefajaiioljjoaaOvBB
import Derived.Test.YtefajaiioljjoaaOvBD
set_option linter.all false
set_option exponentiation.threshold 3000
set_option linter.deprecated false
/- THE LAW of strata. -/
open Go.Proofs
namespace Go.PI
open IM
set_option maxRecDepth 10000
set_option maxHeartbeats 4000000
variable (S : FuncId → Option (List AV → Heap → Option (AV × Heap)))
def GL (v : PV) (σ : List StB) (Xs : List Int) : Prop := (v = .nils ∧ Xs = []) ∨ ∃ j, v = .ownu j Xs.length 1 ∧ σ[j]? = some (.live 3 (Xs.map pn))
theorem GL.gr {v : PV} {σ : List StB} {Xs : List Int} (h : GL v σ Xs) : Gr pn 3 v σ Xs := by
  rcases h with h | ⟨j, h1, h2⟩
  · exact .inl h
  · exact .inr (.inr ⟨j, h1, h2⟩)
theorem fn90 : ctx.fn 90 = some c90 := by kernel_rfl
theorem pstratum_ct (hS : OldO S) {r u : List Int} {n : Nat} {f f' g g' : Nat → Nat} (h : IsO r u n f f' g g') (hn : n ≤ 12) : Ct (ctx.plus S) 90 [pO r u] 20000 fun v => v = pIs (accTo n (cycs n (cmf f f' g g')) (n + 1)) := by
  have hM0 := vertices_ct S hS h
  have hc := IsO.cm h
  have hMl0 : (cycs n (cmf f f' g g')).length ≤ n := cycs_len (Nat.le_refl n)
  have hMe0 : ∀ x ∈ cycs n (cmf f f' g g'), x.length ≤ n ∧ 0 < x.length := fun x hx => by
    refine ⟨cycs_mem hc x hx, ?_⟩
    unfold cycs at hx
    obtain ⟨y, hy, rfl⟩ := List.mem_map.1 hx
    rw [cyc_len]
    exact (ordr_spec hc (List.mem_range.1 (List.mem_filter.1 hy).1)).1
  have hMp0 : cycs n (cmf f f' g g') ≠ [] := fun e => by
    have hm : cyc (cmf f f' g g') 0 ∈ cycs n (cmf f f' g g') := by
      unfold cycs
      exact List.mem_map.2 ⟨0, List.mem_filter.2 ⟨List.mem_range.2 h.pos, by simp only [decide_eq_true_eq]; exact fun y _ => Nat.zero_le y⟩, rfl⟩
    rw [e] at hm
    cases hm
  obtain ⟨M, hM⟩ : ∃ M, cycs n (cmf f f' g g') = M := ⟨_, rfl⟩
  rw [hM] at hM0 hMl0 hMe0 hMp0 ⊢
  refine ct_of (hS 90 (by decide)) fn90 ?_
  refine ⟨by omega, ?_⟩
  refine ⟨_, rfl, ?_⟩
  refine callq rfl hM0 (by omega) ?_
  rintro _ rfl
  refine ⟨fun q st => ∃ (i b : Nat) (v : PV) (σ : List StB) (T : List PV), st = ⟨T, σ, b⟩ ∧ Gt T 25 [(3, v), (7, pM M), (8, pn M.length), (9, pn i)] ∧ q = M.length - i ∧ i ≤ M.length ∧ b ≤ 10010 + 3 * i ∧ Hid (GL v σ (ords (M.take i))), ⟨_, ci ⟨0, _, .nils, _, _, rfl, ⟨rfl, rfl, rfl, rfl, rfl, trivial⟩, rfl, Nat.zero_le _, by omega, ⟨.inl ⟨rfl, rfl⟩⟩⟩⟩, ?_⟩
  rintro _ st ⟨i, b, v, σ, T, rfl, hT, rfl, hi, hb, hh⟩
  obtain ⟨J, rfl⟩ := gt_open hT
  clear hT
  have hG := hh.h
  clear hh
  refine ⟨fun hlt => ?_, fun hge => ?_⟩
  · have hiM : i < M.length := by omega
    obtain ⟨l, hl⟩ : ∃ l, M[i]? = some l := ⟨_, List.getElem?_eq_getElem hiM⟩
    have hle := hMe0 l (List.mem_of_getElem? hl)
    have hol : (ords (M.take i)).length ≤ 100 := by unfold ords; rw [List.length_map, List.length_take]; omega
    refine ⟨⟨⟨by omega, by omega⟩, len_map_le (by omega)⟩, ?_⟩
    refine ⟨_, ld (at_map hl) (by show _ * 1 = i; omega), ?_⟩
    refine ⟨⟨by omega, by omega⟩, ?_⟩
    refine ⟨by omega, part1 fzI ⟨[pn ((l.length : Int) - 1)], rfl, ?_⟩⟩
    refine appGu (f := pn) (e := 3) (y := (l.length : Int) - 1) hG.gr.push push_cont rfl rfl rfl rfl (by kernel_rfl) rfl rfl (by omega) (by omega) fun σ' hlv hkp => ?_
    have ho : ords (M.take (i + 1)) = ords (M.take i) ++ [(l.length : Int) - 1] := by
      unfold ords
      rw [List.take_add_one, hl, List.map_append]; rfl
    rw [← ho] at hlv ⊢
    refine ⟨⟨by omega, by omega⟩, ?_⟩
    exact ⟨_, by omega, ci ⟨i + 1, _, _, σ', _, rfl, ⟨rfl, rfl, rfl, rfl, rfl, trivial⟩, rfl, by omega, by omega, ⟨.inr ⟨_, rfl, hlv⟩⟩⟩⟩
  · have hiM : i = M.length := by omega
    rw [hiM, List.take_length] at hG
    have hol : (ords M).length = M.length := by unfold ords; rw [List.length_map]
    rcases hG with ⟨-, e⟩ | ⟨jv, rfl, hlv⟩
    · rw [e] at hol
      exact absurd (List.eq_nil_of_length_eq_zero hol.symm) hMp0
    · refine callm (sort_cm S hS (.inr rfl) hlv rfl (by omega)) (by omega) ?_
      rintro _ σ2 ⟨rfl, zs, s1, s2⟩
      have hzl : zs.length = (ords M).length := s1.perm.length_eq
      have hz := ords_sorted hMe0 s1.perm (by rw [hzl]; exact s2)
      refine callm (reverse_cm S hS (.inr rfl) s1.at' hzl (by omega)) (by omega) ?_
      rintro _ σ3 ⟨rfl, rfl⟩
      have hjl := (List.getElem?_eq_some_iff.1 s1.at').1
      have hcn : Cn pn (.ownu jv (ords M).length 1) (σ2.set jv (.live 3 (zs.reverse.map pn))) zs.reverse := .inr ⟨jv, 3, contOf_live (List.getElem?_set_self hjl), .inr (by rw [List.length_reverse, hzl])⟩
      obtain ⟨σ4, hf, -⟩ := hcn.fz
      exact endf hf (by rw [hz]; rfl)
def gen (n : Nat) (M : List (List Int)) : Int := ((n : Int) - M.length).tdiv 2 + 1
theorem fn92 : ctx.fn 92 = some c92 := by kernel_rfl
theorem pgenus_ct (hS : OldO S) {r u : List Int} {n : Nat} {f f' g g' : Nat → Nat} (h : IsO r u n f f' g g') : Ct (ctx.plus S) 92 [pO r u] 10010 fun v => v = pn (gen n (cycs n (cmf f f' g g'))) := by
  have hM0 := vertices_ct S hS h
  have hl := h.l1
  have hn := h.le
  have hMl0 : (cycs n (cmf f f' g g')).length ≤ n := cycs_len (Nat.le_refl n)
  obtain ⟨M, hM⟩ : ∃ M, cycs n (cmf f f' g g') = M := ⟨_, rfl⟩
  rw [hM] at hM0 hMl0 ⊢
  have hrl := hl.1
  subst hrl
  obtain ⟨t1, t2, t3, t4, t5⟩ := tqm (p := (r.length : Int) - M.length) (q := 2) (by decide)
  refine ct_of (hS 92 (by decide)) fn92 ?_
  refine ⟨by omega, ?_⟩
  refine ⟨by kernel_rfl, ?_⟩
  refine ⟨_, rfl, rfl, ?_⟩
  refine ⟨_, rfl, rfl, ?_⟩
  refine callq rfl hM0 (by omega) ?_
  rintro _ rfl
  refine ⟨⟨by omega, by omega⟩, ?_⟩
  refine ⟨⟨by decide, by unfold In64; omega⟩, ?_⟩
  refine ⟨by unfold In64; omega, ?_⟩
  exact endq rfl rfl
theorem fn50 : ctx.fn 50 = some c50 := by kernel_rfl
theorem rgenus_ct (hS : OldO S) {r u : List Int} {n : Nat} {f f' g g' : Nat → Nat} (h : IsO r u n f f' g g') : Ct (ctx.plus S) 50 [pO r u] 10020 fun v => v = pn (gen n (cycs n (cmf f f' g g'))) := by
  have hM0 := rvertices_ct S hS h
  have hl := h.l1
  have hn := h.le
  have hMl0 : (cycs n (cmf f f' g g')).length ≤ n := cycs_len (Nat.le_refl n)
  obtain ⟨M, hM⟩ : ∃ M, cycs n (cmf f f' g g') = M := ⟨_, rfl⟩
  rw [hM] at hM0 hMl0 ⊢
  have hrl := hl.1
  subst hrl
  obtain ⟨t1, t2, t3, t4, t5⟩ := tqm (p := (r.length : Int) - M.length) (q := 2) (by decide)
  refine ct_of (hS 50 (by decide)) fn50 ?_
  refine ⟨by omega, ?_⟩
  refine ⟨by kernel_rfl, ?_⟩
  refine ⟨_, rfl, rfl, ?_⟩
  refine callq rfl (size_ct S hS) (by omega) ?_
  rintro _ rfl
  refine ⟨_, rfl, rfl, ?_⟩
  refine callq rfl hM0 (by omega) ?_
  rintro _ rfl
  refine ⟨⟨by omega, by omega⟩, ?_⟩
  refine ⟨⟨by decide, by unfold In64; omega⟩, ?_⟩
  refine ⟨by unfold In64; omega, ?_⟩
  exact endq rfl rfl
theorem fn91 : ctx.fn 91 = some c91 := by kernel_rfl
theorem fn93 : ctx.fn 93 = some c93 := by kernel_rfl
theorem answer91_ct (hS : OldO S) {r u : List Int} {chk dc g d : Nat} {e : Int} {Q : PV → Prop} (hc : Ct (ctx.plus S) chk [pOs [(r, u)]] dc fun v => v = pn e) (hq : ∀ v, Q v → cloA v = true) (hg : e = 0 → Ct (ctx.plus S) g [pO r u] d Q) :
    Ct (ctx.plus S) 91 [pO r u, .fn chk, .fn g] (2 + dc + d) fun v => (e ≠ 0 ∧ v = .tup [pn 0, pn e]) ∨ (e = 0 ∧ ∃ w, Q w ∧ v = .tup [w, pn 0]) := by
  refine ct_of (hS 91 (by decide)) fn91 ?_
  refine ⟨by omega, ?_⟩
  refine ⟨_, rfl, ?_⟩
  refine ⟨by omega, partc rfl ⟨_, rfl, ?_⟩⟩
  refine cal1 (fz_own (ty := 24) rfl (Nat.le_refl 2) (Nat.le_refl _) rfl) hc (by omega) ?_
  rintro _ rfl
  refine ⟨fun h0 => ?_, fun h0 => ?_⟩
  · exact ⟨⟨[], .inl ⟨h0, rfl⟩⟩⟩
  · refine ⟨_, rfl, ?_⟩
    refine callq rfl (hg h0) (by omega) ?_
    intro w hw
    exact endsq (by simp only [cloAs, hq w hw]; rfl) (.inr ⟨h0, w, hw, rfl⟩)
theorem answer93_ct (hS : OldO S) {r u : List Int} {chk dc g d : Nat} {e : Int} {Q : PV → Prop} (hc : Ct (ctx.plus S) chk [pOs [(r, u)]] dc fun v => v = pn e) (hq : ∀ v, Q v → ∃ A B C, v = lat A B C) (hg : e = 0 → Ct (ctx.plus S) g [pO r u] d Q) :
    Ct (ctx.plus S) 93 [pO r u, .fn chk, .fn g] (4 + dc + d) fun v => (e ≠ 0 ∧ v = .tup [lat 0 0 0, pn e]) ∨ (e = 0 ∧ ∃ A B C, Q (lat A B C) ∧ v = .tup [lat A B C, pn 0]) := by
  refine ct_of (hS 93 (by decide)) fn93 ?_
  refine ⟨by omega, by omega, ?_⟩
  refine ⟨_, rfl, ?_⟩
  refine ⟨by omega, partc rfl ⟨_, rfl, ?_⟩⟩
  refine cal1 (fz_own (ty := 24) rfl (Nat.le_refl 2) (Nat.le_refl _) rfl) hc (by omega) ?_
  rintro _ rfl
  refine ⟨fun h0 => ?_, fun h0 => ?_⟩
  · refine ⟨by omega, ?_⟩
    refine ⟨_, rfl, ?_⟩
    refine ⟨_, _, rfl, ⟨rfl, Nat.le_of_ble_eq_true rfl, rfl⟩, _, rfl, _, rfl, ?_⟩
    refine ⟨_, rfl, ?_⟩
    exact endsq rfl (.inl ⟨h0, rfl⟩)
  · refine ⟨_, rfl, ?_⟩
    refine callq rfl (hg h0) (by omega) ?_
    intro w hw
    obtain ⟨A, B, C, rfl⟩ := hq w hw
    refine ⟨_, _, rfl, ⟨rfl, Nat.le_of_ble_eq_true rfl, rfl⟩, _, rfl, _, rfl, ?_⟩
    refine ⟨_, rfl, ?_⟩
    exact endsq rfl (.inr ⟨h0, A, B, C, hw, rfl⟩)
theorem fn46 : ctx.fn 46 = some c46 := by kernel_rfl
theorem fn47 : ctx.fn 47 = some c47 := by kernel_rfl
theorem fn48 : ctx.fn 48 = some c48 := by kernel_rfl
theorem st46 (hS : OldO S) {r u : List Int} {e : Int} {P : PV} (h72 : Ct (ctx.plus S) 72 [pOs [(r, u)]] 3300 fun v => v = pn e) (hP : cloA P = true) (hg : e = 0 → Ct (ctx.plus S) 90 [pO r u] 20000 fun v => v = P) : Ct (ctx.plus S) 46 [pO r u] 24000 fun v => (e ≠ 0 ∧ v = .tup [.lst 0 [], pn e]) ∨ (e = 0 ∧ v = .tup [P, pn 0]) := by
  refine ct_of (hS 46 (by decide)) fn46 ?_
  refine ⟨by omega, ?_⟩
  refine ⟨_, rfl, ?_⟩
  refine callq rfl (answer85_ct S hS h72 (Q := fun v => v = P) (fun v e => by rw [e]; exact hP) (d := 20000) hg) (by omega) ?_
  rintro _ (⟨h0, rfl⟩ | ⟨h0, w, rfl, rfl⟩)
  · exact endsq rfl (.inl ⟨h0, rfl⟩)
  · exact endsq (by simp only [cloAs, hP]; rfl) (.inr ⟨h0, rfl⟩)
theorem ge47 (hS : OldO S) {r u : List Int} {e m : Int} (h72 : Ct (ctx.plus S) 72 [pOs [(r, u)]] 3300 fun v => v = pn e) (hg : e = 0 → Ct (ctx.plus S) 92 [pO r u] 20000 fun v => v = pn m) : Ct (ctx.plus S) 47 [pO r u] 24000 fun v => (e ≠ 0 ∧ v = .tup [pn 0, pn e]) ∨ (e = 0 ∧ v = .tup [pn m, pn 0]) := by
  refine ct_of (hS 47 (by decide)) fn47 ?_
  refine ⟨by omega, ?_⟩
  refine ⟨_, rfl, ?_⟩
  refine callq rfl (answer91_ct S hS h72 (Q := fun v => v = pn m) (fun v e => by rw [e]; rfl) (d := 20000) hg) (by omega) ?_
  rintro _ (⟨h0, rfl⟩ | ⟨h0, w, rfl, rfl⟩)
  · exact endsq rfl (.inl ⟨h0, rfl⟩)
  · exact endsq rfl (.inr ⟨h0, rfl⟩)
theorem pe48 (hS : OldO S) {r u : List Int} {e : Int} {Q : PV → Prop} (h72 : Ct (ctx.plus S) 72 [pOs [(r, u)]] 3300 fun v => v = pn e) (hq : ∀ v, Q v → ∃ A B C, v = lat A B C) (hg : e = 0 → Ct (ctx.plus S) 94 [pO r u] 1000 Q) : Ct (ctx.plus S) 48 [pO r u] 24000 fun v => (e ≠ 0 ∧ v = .tup [lat 0 0 0, pn e]) ∨ (e = 0 ∧ ∃ A B C, Q (lat A B C) ∧ v = .tup [lat A B C, pn 0]) := by
  refine ct_of (hS 48 (by decide)) fn48 ?_
  refine ⟨by omega, by omega, ?_⟩
  refine ⟨_, rfl, ?_⟩
  refine callq rfl (answer93_ct S hS h72 hq (d := 1000) hg) (by omega) ?_
  rintro _ (⟨h0, rfl⟩ | ⟨h0, A, B, C, hw, rfl⟩)
  · refine ⟨_, _, rfl, ⟨rfl, Nat.le_of_ble_eq_true rfl, rfl⟩, _, rfl, _, rfl, ?_⟩
    refine ⟨_, rfl, ?_⟩
    exact endsq rfl (.inl ⟨h0, rfl⟩)
  · refine ⟨_, _, rfl, ⟨rfl, Nat.le_of_ble_eq_true rfl, rfl⟩, _, rfl, _, rfl, ?_⟩
    refine ⟨_, rfl, ?_⟩
    exact endsq rfl (.inr ⟨h0, A, B, C, hw, rfl⟩)
theorem peq_same : ∀ (xs : List Int), peqI (xs.map pn) (xs.map pn) = some true
  | [] => rfl
  | x :: xs => by
    show (match peqI (xs.map pn) (xs.map pn) with | some r => _ | none => none) = _
    rw [peq_same xs]
    simp
theorem fn9 : ctx.fn 9 = some c9 := by kernel_rfl
theorem strataLaw_ct (hS : OldO S) (hA : Ct (ctx.plus S) 13 [] 0 fun r => r = .bool true) {r u : List Int} : Ct (ctx.plus S) 9 [pO r u] 2000000 fun v => v = .bool true := by
  refine ct_of (hS 9 (by decide)) fn9 ?_
  refine ⟨by omega, ?_⟩
  refine callq rfl hA (by omega) ?_
  rintro _ rfl
  refine ⟨_, rfl, ?_⟩
  refine callq rfl (few_ct S hS) (by omega) ?_
  rintro _ (⟨hf, rfl⟩ | ⟨hf, rfl⟩)
  rotate_left
  · exact endq rfl rfl
  have l1 : r.length ≤ 62 ∧ u.length ≤ 62 := by rcases hf with h | h <;> omega
  have key : (∃ e : Int, e ≠ 0 ∧ Ct (ctx.plus S) 72 [pOs [(r, u)]] 3300 (fun v => v = pn e) ∧ Ct (ctx.plus S) 28 [pO r u] 310010 fun v => v = pn e) ∨ ∃ n f f' g g', IsO r u n f f' g g' ∧ Conn n f g := by
    by_cases h0 : chkO r u = 0
    · obtain ⟨n, f, f', g, g', ho⟩ := chkO_ok h0
      by_cases hc : Conn n f g
      · exact .inr ⟨n, f, f', g, g', ho, hc⟩
      · have e16 : cc n f g = 16 := by unfold cc; rw [if_neg hc]
        have h72 := checkConn_ok S hS ho
        have h28 := checkOne_ok S hS ho
        rw [e16] at h72 h28
        exact .inl ⟨16, by decide, h72, h28⟩
    · exact .inl ⟨_, h0, checkConn_bad S hS (by omega) (by omega) h0, (checkOne_bad S hS (by omega) (by omega) h0).mono (by omega) fun _ h => h⟩
  refine ⟨_, rfl, ?_⟩
  rcases key with ⟨e, he, h72, h28⟩ | ⟨n, f, f', g, g', ho, hc⟩
  · refine callq rfl (st46 S hS h72 (P := .lst 0 []) rfl fun h => absurd h he) (by omega) ?_
    rintro _ (⟨-, rfl⟩ | ⟨h, -⟩)
    rotate_left
    · exact absurd h he
    refine ⟨_, rfl, ?_⟩
    refine callq rfl (ge47 S hS h72 (m := 0) fun h => absurd h he) (by omega) ?_
    rintro _ (⟨-, rfl⟩ | ⟨h, -⟩)
    rotate_left
    · exact absurd h he
    refine ⟨_, rfl, ?_⟩
    refine callq rfl (pe48 S hS h72 (Q := fun _ => False) (fun _ h => h.elim) fun h => absurd h he) (by omega) ?_
    rintro _ (⟨-, rfl⟩ | ⟨h, -⟩)
    rotate_left
    · exact absurd h he
    refine ⟨by omega, ?_⟩
    refine ⟨_, _, rfl, ⟨rfl, Nat.le_of_ble_eq_true rfl, rfl⟩, _, rfl, _, rfl, ?_⟩
    refine ⟨_, rfl, ?_⟩
    refine callq rfl h28 (by omega) ?_
    rintro _ rfl
    refine ⟨fun _ => ?_, fun h => absurd h he⟩
    refine ⟨fun _ => ?_, fun h => absurd rfl h⟩
    refine ⟨fun _ => ?_, fun h => absurd rfl h⟩
    refine ⟨fun _ => ?_, fun h => absurd rfl h⟩
    refine ⟨fun _ => ?_, fun h => absurd rfl h⟩
    refine ⟨fun _ => ?_, fun h => absurd rfl h⟩
    refine ⟨_, rfl, ?_⟩
    refine ⟨_, rfl, ?_⟩
    refine ⟨true, ⟨rfl, rfl⟩, ?_⟩
    exact endq rfl rfl
  · have hn12 : n ≤ 12 := by have := ho.l1; have := ho.le; rcases hf with h | h <;> omega
    have e0 : cc n f g = 0 := by unfold cc; rw [if_pos hc]
    have h72 := checkConn_ok S hS ho
    have h28 := checkOne_ok S hS ho
    rw [e0] at h72 h28
    have hcm := IsO.cm ho
    have hMl0 : (cycs n (cmf f f' g g')).length ≤ n := cycs_len (Nat.le_refl n)
    have hst := stratum_ct S hS ho
    have hps := pstratum_ct S hS ho hn12
    have hpg := pgenus_ct S hS ho
    have hrg := rgenus_ct S hS ho
    have hal := acc_len (n := n) (M := cycs n (cmf f f' g g')) (n + 1)
    obtain ⟨W, hW⟩ : ∃ W, accTo n (cycs n (cmf f f' g g')) (n + 1) = W := ⟨_, rfl⟩
    obtain ⟨G, hG⟩ : ∃ G, gen n (cycs n (cmf f f' g g')) = G := ⟨_, rfl⟩
    rw [hW] at hst hps hal
    rw [hG] at hpg hrg
    have hWl : W.length ≤ 1000 := by
      have := Nat.mul_le_mul (show n + 1 ≤ 13 by omega) (show (cycs n (cmf f f' g g')).length ≤ 12 by omega)
      omega
    refine callq rfl (st46 S hS h72 (P := pIs W) rfl fun _ => hps) (by omega) ?_
    rintro _ (⟨h, -⟩ | ⟨-, rfl⟩)
    · exact absurd rfl h
    refine ⟨_, rfl, ?_⟩
    refine callq rfl (ge47 S hS h72 (m := G) fun _ => hpg.mono (by omega) fun _ h => h) (by omega) ?_
    rintro _ (⟨h, -⟩ | ⟨-, rfl⟩)
    · exact absurd rfl h
    refine ⟨_, rfl, ?_⟩
    refine callq rfl (pe48 S hS h72 (fun v h => by obtain ⟨A, B, C, px, py, h, -⟩ := h; exact ⟨A, B, C, h⟩) fun _ => periods_ct S hS ho hc hn12) (by omega) ?_
    rintro _ (⟨h, -⟩ | ⟨-, A, B, C, ⟨A', B', C', px, py, hl, n1, p1, d1⟩, rfl⟩)
    · exact absurd rfl h
    have hl' : A = A' ∧ B = B' ∧ C = C' := by
      unfold lat at hl
      injection hl with hl
      injection hl with q1 hl
      injection hl with q2 hl
      injection hl with q3 hl
      injection q1 with _ q1
      injection q2 with _ q2
      injection q3 with _ q3
      exact ⟨q1, q2, q3⟩
    obtain ⟨rfl, rfl, rfl⟩ := hl'
    clear hl
    refine ⟨by omega, ?_⟩
    refine ⟨_, _, rfl, ⟨rfl, Nat.le_of_ble_eq_true rfl, rfl⟩, _, rfl, _, rfl, ?_⟩
    refine ⟨_, rfl, ?_⟩
    refine callq rfl h28 (by omega) ?_
    rintro _ rfl
    refine ⟨fun h => absurd rfl h, fun _ => ?_⟩
    refine ⟨by kernel_rfl, ?_⟩
    refine ⟨fun _ => ?_, fun h => absurd rfl h⟩
    refine ⟨fun _ => ?_, fun h => absurd rfl h⟩
    refine ⟨fun _ => ?_, fun h => absurd rfl h⟩
    refine ⟨_, rfl, rfl, ?_⟩
    refine callq rfl hst (by omega) ?_
    rintro _ rfl
    refine callq rfl (ints_ct S hS (xs := W) (ys := W) (by omega) (by omega)) (by omega) ?_
    rintro _ rfl
    rw [decide_eq_true rfl]
    refine ⟨_, rfl, rfl, ?_⟩
    refine callq rfl hrg (by omega) ?_
    rintro _ rfl
    refine ⟨fun _ => ?_, fun h => absurd rfl h⟩
    refine ⟨_, rfl, rfl, ?_⟩
    refine ⟨_, rfl, rfl, ?_⟩
    refine callq rfl (rperiods_ct S hS ho hc hn12) (by omega) ?_
    rintro _ ⟨A2, B2, C2, qx, qy, rfl, n2, p2, d2⟩
    obtain ⟨rfl, rfl, rfl⟩ := per_uniq ho.pr ho.pu ho.pos d1 p1 n1 d2 p2 n2
    refine ⟨true, ⟨peq_same [A, B, C], rfl⟩, ?_⟩
    exact endq rfl rfl
end Go.PI
