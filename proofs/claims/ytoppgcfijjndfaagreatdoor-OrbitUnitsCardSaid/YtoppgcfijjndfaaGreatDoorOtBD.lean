/- Own work of the verifier: OrAt. -/
import Derived.Test.YtoppgcfijjndfaaGreatDoorOtBC
set_option linter.all false
set_option exponentiation.threshold 3000
set_option linter.deprecated false
/- WHAT A WORD MAKES of an origami: of the program. -/
open Go.Proofs
namespace Go.PI
open IM
set_option maxRecDepth 10000
set_option maxHeartbeats 4000000
variable (S : FuncId → Option (List AV → Heap → Option (AV × Heap)))
theorem fz_fnc2 {f i j : Nat} {ty ty2 : TypeId} {cs cs2 : List PV} {σ : List StB} (h : contOf σ i = some (ty, cs)) (h2 : contOf σ j = some (ty2, cs2)) : Fz (.fnc f [.optr i 0, .optr j 0]) σ (.fnc f [.lptr cs, .lptr cs2]) ((σ.set i (.frz ty cs)).set j (.frz ty2 cs2)) :=
  fun _ hK => ⟨ty, cs, h, Nat.zero_le _, ty2, cs2, (by rw [contOf_set h]; exact h2), Nat.zero_le _, hK⟩
theorem fn133 : ctx.fn 133 = some c133 := by kernel_rfl
theorem isStep_ct (hS : OldO S) {s : ByteArray} {i L g : Nat} {x : UInt8} (hx : s[i]? = some x) : Ct (ctx.plus S) 133 [.agg [pb L, .fn g], .lptr [.str s], .lptr [pn i]] 1 fun r => (L = x.toNat ∧ r = .bool true) ∨ (L ≠ x.toNat ∧ r = .bool false) := by
  refine ct_of (hS 133 (by decide)) fn133 ?_
  refine ⟨by omega, ?_⟩
  refine ⟨by kernel_rfl, ?_⟩
  refine ⟨_, rfl, rfl, ?_⟩
  refine ⟨_, rfl, rfl, ?_⟩
  refine ⟨_, rfl, rfl, ?_⟩
  refine ⟨by omega, x, hx, ?_⟩
  by_cases h : L = x.toNat
  · refine ⟨rfl, _, u8_eq_y h, ?_⟩
    exact endq rfl (.inl ⟨h, rfl⟩)
  · refine ⟨rfl, _, u8_eq_n h, ?_⟩
    exact endq rfl (.inr ⟨h, rfl⟩)
/-- the place of a letter among the steps -/
def stepAt (x k : Nat) : Prop := (k = 0 ∧ x = 83) ∨ (k = 1 ∧ x = 84) ∨ (k = 2 ∧ x = 115) ∨ (k = 3 ∧ x = 116)
theorem fn132 : ctx.fn 132 = some c132 := by kernel_rfl
theorem indexStep_ct (hS : OldO S) {s : ByteArray} {i : Nat} {x : UInt8} (hx : s[i]? = some x) (hl : IsLet x.toNat) : Ct (ctx.plus S) 132 [.lst 4 stepsP, .fnc 133 [.lptr [.str s], .lptr [pn i]]] 10 fun r => ∃ k : Nat, r = pn k ∧ stepAt x.toNat k := by
  refine ct_of (hS 132 (by decide)) fn132 ?_
  refine ⟨fun m st => ∃ (j b : Nat) (T : List PV), st = ⟨T, [], b⟩ ∧ Gt T 19 [(0, .lst 4 stepsP), (1, .fnc 133 [.lptr [.str s], .lptr [pn i]]), (7, pn 4), (8, pn j)] ∧ m = 4 - j ∧ j ≤ 4 ∧ b ≤ j ∧ Hid ((0 < j → x.toNat ≠ 83) ∧ (1 < j → x.toNat ≠ 84) ∧ (2 < j → x.toNat ≠ 115) ∧ (3 < j → x.toNat ≠ 116)), ⟨_, ci ⟨0, _, _, rfl, ⟨rfl, rfl, rfl, rfl, rfl, trivial⟩, rfl, by omega, by omega, ⟨fun h => by omega, fun h => by omega, fun h => by omega, fun h => by omega⟩⟩⟩, ?_⟩
  rintro _ st ⟨j, b, T, rfl, hT, rfl, hj, hb, hh⟩
  obtain ⟨J, rfl⟩ := gt_open hT
  clear hT
  obtain ⟨q1, q2, q3, q4⟩ := hh.h
  clear hh
  refine ⟨fun hlt => ?_, fun hge => ?_⟩
  · refine ⟨⟨⟨by omega, by omega⟩, by show _ * 2 ≤ 8; omega⟩, ?_⟩
    have hj4 : j = 0 ∨ j = 1 ∨ j = 2 ∨ j = 3 := by omega
    rcases hj4 with rfl | rfl | rfl | rfl
    all_goals
      refine ⟨_, rfl, ?_⟩
      refine callq rfl (isStep_ct S hS hx) (by omega) ?_
      rintro _ (⟨h, rfl⟩ | ⟨h, rfl⟩)
    · exact endq rfl ⟨0, rfl, .inl ⟨rfl, h.symm⟩⟩
    · refine ⟨⟨by omega, by omega⟩, ?_⟩
      exact ⟨_, by omega, ci ⟨1, _, _, rfl, ⟨rfl, rfl, rfl, rfl, rfl, trivial⟩, rfl, by omega, by omega, ⟨fun _ e => h e.symm, fun h => by omega, fun h => by omega, fun h => by omega⟩⟩⟩
    · exact endq rfl ⟨1, rfl, .inr (.inl ⟨rfl, h.symm⟩)⟩
    · refine ⟨⟨by omega, by omega⟩, ?_⟩
      exact ⟨_, by omega, ci ⟨2, _, _, rfl, ⟨rfl, rfl, rfl, rfl, rfl, trivial⟩, rfl, by omega, by omega, ⟨fun _ => q1 (by omega), fun _ e => h e.symm, fun h => by omega, fun h => by omega⟩⟩⟩
    · exact endq rfl ⟨2, rfl, .inr (.inr (.inl ⟨rfl, h.symm⟩))⟩
    · refine ⟨⟨by omega, by omega⟩, ?_⟩
      exact ⟨_, by omega, ci ⟨3, _, _, rfl, ⟨rfl, rfl, rfl, rfl, rfl, trivial⟩, rfl, by omega, by omega, ⟨fun _ => q1 (by omega), fun _ => q2 (by omega), fun _ e => h e.symm, fun h => by omega⟩⟩⟩
    · exact endq rfl ⟨3, rfl, .inr (.inr (.inr ⟨rfl, h.symm⟩))⟩
    · refine ⟨⟨by omega, by omega⟩, ?_⟩
      exact ⟨_, by omega, ci ⟨4, _, _, rfl, ⟨rfl, rfl, rfl, rfl, rfl, trivial⟩, rfl, by omega, by omega, ⟨fun _ => q1 (by omega), fun _ => q2 (by omega), fun _ => q3 (by omega), fun _ e => h e.symm⟩⟩⟩
  · exfalso
    rcases hl with h | h | h | h
    · exact q1 (by omega) h
    · exact q3 (by omega) h
    · exact q2 (by omega) h
    · exact q4 (by omega) h
theorem fn84 : ctx.fn 84 = some c84 := by kernel_rfl
theorem act_ct (hS : OldO S) {n : Nat} {o : O4} {s : ByteArray} (h0 : 0 < n) (hn : n ≤ 60) (h : o.Ok n) (hs : s.size ≤ 200) (hl : ∀ b ∈ wl s, IsLet b) : Ct (ctx.plus S) 84 [p4 n o, .str s] 5000000 fun r => r = p4 n (o.act (wl s)) := by
  refine ct_of (hS 84 (by decide)) fn84 ?_
  refine ⟨by omega, by omega, by omega, ?_⟩
  refine ⟨by kernel_rfl, ?_⟩
  refine ⟨_, rfl, rfl, ?_⟩
  refine callq rfl (clone_ct S hS (xs := PL n o.f) (by rw [PL_len]; omega) (PL_ne h0)) (by omega) ?_
  rintro _ rfl
  refine ⟨_, rfl, rfl, ?_⟩
  refine callq rfl (clone_ct S hS (xs := PL n o.g) (by rw [PL_len]; omega) (PL_ne h0)) (by omega) ?_
  rintro _ rfl
  refine partc rfl ⟨_, rfl, ?_⟩
  refine ⟨_, _, rfl, ⟨rfl, Nat.le_refl 2, rfl⟩, _, rfl, _, rfl, ?_⟩
  refine callq rfl (forward_ct S hS) (by omega) ?_
  rintro _ rfl
  refine callq rfl (back_ct S hS) (by omega) ?_
  rintro _ rfl
  refine ⟨by omega, part2 fzL fzL ⟨_, rfl, ?_⟩⟩
  refine cal1 (fz_own (cs' := [.lst 2 [pb 83, .fn 177, pb 84, .fn 178], .lst 2 [pb 115, .fn 180, pb 116, .fn 181]]) push_cont (Nat.le_refl 2) (Nat.le_refl 2) rfl) (concat_ct S hS) (by omega) ?_
  rintro _ rfl
  refine ⟨_, rfl, ?_⟩
  refine ⟨⟨by omega, by omega⟩, ?_⟩
  refine ⟨by omega, ?_⟩
  refine ⟨_, _, rfl, ⟨rfl, Nat.le_refl 1, rfl⟩, _, rfl, _, rfl, ?_⟩
  refine ⟨fun m st => ∃ (i j b : Nat) (σ : List StB) (T : List PV), st = ⟨T, σ, b⟩ ∧ Gt T 38 [(2, .optr 0 0), (3, .optr 1 0), (4, .optr 2 0), (5, .lst 4 stepsP), (6, .optr j 0)] ∧ m = i ∧ i ≤ s.size ∧ b ≤ 1000 + 20100 * (s.size - i) ∧ Hid (3 ≤ j ∧ σ[0]? = some (.live 45 [pIs (PL n (o.act ((wl s).drop i)).f), pIs (PL n (o.act ((wl s).drop i)).g)]) ∧ contOf σ 1 = some (9, [.str s]) ∧ (∃ cs, σ[2]? = some (.live 45 cs) ∧ cs.length = 2) ∧ σ[j]? = some (.live 3 [pn ((i : Int) - 1)])), ⟨_, ci ⟨s.size, _, _, _, _, rfl, ⟨rfl, rfl, rfl, rfl, rfl, rfl, trivial⟩, rfl, Nat.le_refl _, by omega, ⟨by show 3 ≤ 4; omega, ?_, rfl, ⟨_, rfl, rfl⟩, rfl⟩⟩⟩, ?_⟩
  · rw [List.drop_eq_nil_of_le (by rw [wl_len]; omega)]
    rfl
  rintro m st ⟨i, j, b, σ, T, rfl, hT, hm, hi, hb, hh⟩
  obtain ⟨J, rfl⟩ := gt_open hT
  clear hT
  obtain ⟨hj, h00, h1, ⟨cs2, h2, hc2⟩, hjj⟩ := hh.h
  clear hh
  refine ⟨_, load_cc (contOf_live hjj) rfl rfl, ?_⟩
  refine ⟨fun hlt => ?_, fun hge => ?_⟩
  · obtain ⟨q, rfl⟩ : ∃ q, i = q + 1 := ⟨i - 1, by omega⟩
    obtain ⟨x, hx, hx2⟩ := wl_at (s := s) (i := q) (by omega)
    have hlx := hl _ (List.mem_of_getElem? hx2)
    have hd : (wl s).drop q = x.toNat :: (wl s).drop (q + 1) := drop_at hx2
    have hq : ((q + 1 : Nat) : Int) - 1 = q := by omega
    rw [hq] at hjj
    have hok := h.act ((wl s).drop (q + 1))
    have hjl := (List.getElem?_eq_some_iff.1 hjj).1
    have g1 := contOf_set h1
    refine cal2 fzL (fz_fnc2 h1 (contOf_live hjj)) (indexStep_ct S hS hx hlx) (by omega) ?_
    rintro _ ⟨k, rfl, hk⟩
    have e0 : ∀ a : Nat, a ≠ 1 → a ≠ j → ((σ.set 1 (.frz 9 [.str s])).set j (.frz 3 [pn q]))[a]? = σ[a]? := fun a ha hb => by
      rw [List.getElem?_set_ne (Ne.symm hb), List.getElem?_set_ne (Ne.symm ha)]
    have e1 : contOf ((σ.set 1 (.frz 9 [.str s])).set j (.frz 3 [pn q])) 1 = some (9, [.str s]) := by
      unfold contOf
      rw [List.getElem?_set_ne (by omega), List.getElem?_set_self (by omega)]
      rfl
    have ej : ((σ.set 1 (.frz 9 [.str s])).set j (.frz 3 [pn q]))[j]? = some (.frz 3 [pn q]) := List.getElem?_set_self (by rw [List.length_set]; omega)
    have el : ((σ.set 1 (.frz 9 [.str s])).set j (.frz 3 [pn q])).length = σ.length := by rw [List.length_set, List.length_set]
    have e00 := (e0 0 (by omega) (by omega)).trans h00
    have e22 := (e0 2 (by omega) (by omega)).trans h2
    generalize (σ.set 1 (.frz 9 [.str s])).set j (.frz 3 [pn q]) = σ' at *
    refine ⟨by kernel_rfl, ?_⟩
    have hact : ∀ y, x.toNat = y → o.act ((wl s).drop q) = (o.act ((wl s).drop (q + 1))).let y := fun y hy => by rw [hd, ← hy]; rfl
    rcases hk with ⟨rfl, e⟩ | ⟨rfl, e⟩ | ⟨rfl, e⟩ | ⟨rfl, e⟩
    all_goals
      refine ⟨⟨⟨by omega, by omega⟩, by show _ * 2 ≤ 8; omega⟩, ?_⟩
      refine ⟨by decide, ?_⟩
      refine ⟨_, rfl, rfl, ?_⟩
      refine ⟨_, load_cc (contOf_live e00) rfl rfl, rfl, ?_⟩
      first
        | refine callq rfl (lS_ct S hS hn hok) (by omega) ?_
        | refine callq rfl (lT_ct S hS hn hok) (by omega) ?_
        | refine callq rfl (ls_ct S hS hn hok) (by omega) ?_
        | refine callq rfl (lt_ct S hS hn hok) (by omega) ?_
      rintro _ rfl
      have ha := hact _ e
      refine ⟨_, _, e00, ⟨rfl, Nat.le_refl 2, rfl⟩, _, rfl, _, rfl, ?_⟩
      refine ⟨_, load_cc (show contOf (σ'.set 0 _) j = some (3, [pn q]) by unfold contOf; rw [List.getElem?_set_ne (by omega), ej]; rfl) rfl rfl, ?_⟩
      refine ⟨by omega, ?_⟩
      refine ⟨_, _, push_get, ⟨rfl, Nat.le_refl 1, rfl⟩, _, rfl, _, rfl, ?_⟩
      refine ⟨_, load_cc (contOf_live (List.getElem?_set_self (by rw [List.length_append]; exact Nat.lt_succ_self _))) rfl rfl, ?_⟩
      refine ⟨⟨by omega, by omega⟩, ?_⟩
      refine ⟨_, _, List.getElem?_set_self (by rw [List.length_append]; exact Nat.lt_succ_self _), ⟨rfl, Nat.le_refl 1, rfl⟩, _, rfl, _, rfl, ?_⟩
      refine ⟨q, by omega, ci ⟨q, _, _, _, _, rfl, ⟨rfl, rfl, rfl, rfl, rfl, rfl, trivial⟩, rfl, by omega, by omega, ⟨by rw [List.length_set]; omega, ?_, ?_, ⟨cs2, ?_, hc2⟩, ?_⟩⟩⟩
      · rw [List.getElem?_set_ne (by rw [List.length_set]; omega), List.getElem?_set_ne (by rw [List.length_set]; omega), List.getElem?_append_left (by rw [List.length_set]; omega), List.getElem?_set_self (by omega), ha]
        rfl
      · unfold contOf
        rw [List.getElem?_set_ne (by rw [List.length_set]; omega), List.getElem?_set_ne (by rw [List.length_set]; omega), List.getElem?_append_left (by rw [List.length_set]; omega), List.getElem?_set_ne (by omega)]
        exact e1
      · rw [List.getElem?_set_ne (by rw [List.length_set]; omega), List.getElem?_set_ne (by rw [List.length_set]; omega), List.getElem?_append_left (by rw [List.length_set]; omega), List.getElem?_set_ne (by omega)]
        exact e22
      · rw [List.getElem?_set_self (by simp)]
        rfl
  · have hi0 : i = 0 := by omega
    subst hi0
    refine ⟨_, load_cc (contOf_live h00) rfl rfl, ?_⟩
    refine ⟨_, _, h2, ⟨rfl, by rw [hc2]; exact Nat.le_refl 2, rfl⟩, _, rfl, _, rfl, ?_⟩
    refine ⟨_, load_cc (contOf_live (List.getElem?_set_self (List.getElem?_eq_some_iff.1 h2).1)) rfl rfl, ?_⟩
    exact endq rfl rfl
end Go.PI
