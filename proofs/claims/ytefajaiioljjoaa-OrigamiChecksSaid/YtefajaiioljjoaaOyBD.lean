/- Own work of the verifier: OyD. -/
import Derived.Test.YtefajaiioljjoaaOyBC
set_option linter.all false
set_option exponentiation.threshold 3000
set_option linter.deprecated false
/- COMPONENTS and parts, as they are answered. -/
open Go.Proofs
namespace Go.PI
open IM
set_option maxRecDepth 10000
set_option maxHeartbeats 4000000
variable (S : FuncId → Option (List AV → Heap → Option (AV × Heap)))
theorem fn16 : ctx.fn 16 = some c16 := by kernel_rfl
theorem pcomponents_ok (hS : OldO S) {r u : List Int} {n : Nat} {f f' g g' : Nat → Nat} (h : IsO r u n f f' g g') (hn : n ≤ 12) : Ct (ctx.plus S) 16 [pO r u] 110000 fun v => v = .tup [pM (compsTo f g n n), pn 0] := by
  have hl := h.l1
  refine ct_of (hS 16 (by decide)) fn16 ?_
  refine ⟨by omega, ?_⟩
  refine ⟨_, rfl, ?_⟩
  refine callq rfl (answer62_ct S hS (check1_ct S hS (by omega) (by omega)) (Q := fun v => v = pM (compsTo f g n n)) (fun v e => by rw [e]; rfl) (d := 100000) fun h0 => components_ct S hS h hn) (by omega) ?_
  rintro _ (⟨h0, rfl⟩ | ⟨h0, w, rfl, rfl⟩)
  · exact absurd h.chk h0
  · exact endsq rfl rfl
theorem pcomponents_bad (hS : OldO S) {r u : List Int} (l1 : r.length ≤ 1000000) (l2 : u.length ≤ 1000000) (hb : chkO r u ≠ 0) : Ct (ctx.plus S) 16 [pO r u] 110000 fun v => v = .tup [.lst 0 [], pn (chkO r u)] := by
  refine ct_of (hS 16 (by decide)) fn16 ?_
  refine ⟨by omega, ?_⟩
  refine ⟨_, rfl, ?_⟩
  refine callq rfl (answer62_ct S hS (check1_ct S hS l1 l2) (Q := fun _ => False) (fun v e => e.elim) (d := 0) fun h0 => absurd h0 hb) (by omega) ?_
  rintro _ (⟨h0, rfl⟩ | ⟨h0, w, hw, rfl⟩)
  · exact endsq rfl rfl
  · exact hw.elim
theorem fn17 : ctx.fn 17 = some c17 := by kernel_rfl
theorem ppart_bad (hS : OldO S) {r u : List Int} {i : Int} (l1 : r.length ≤ 1000000) (l2 : u.length ≤ 1000000) (hb : chkO r u ≠ 0) : Ct (ctx.plus S) 17 [pO r u, pn i] 120000 fun v => v = .tup [pO [] [], pn (chkO r u)] := by
  refine ct_of (hS 17 (by decide)) fn17 ?_
  refine ⟨by omega, by omega, ?_⟩
  refine ⟨_, rfl, ?_⟩
  refine callq rfl (check_ct S hS l1 l2) (by omega) ?_
  rintro _ rfl
  refine ⟨fun _ => ?_, fun h0 => absurd h0 hb⟩
  refine ⟨_, rfl, ?_⟩
  refine ⟨_, _, rfl, ⟨rfl, Nat.le_of_ble_eq_true rfl, rfl⟩, _, rfl, _, rfl, ?_⟩
  refine ⟨_, rfl, ?_⟩
  exact ⟨⟨[], rfl⟩⟩
theorem comps_len {n : Nat} {f g : Nat → Nat} : (compsTo f g n n).length ≤ n := by rw [compsTo_len]; exact lows_len
theorem ppart_none (hS : OldO S) {r u : List Int} {n : Nat} {f f' g g' : Nat → Nat} (h : IsO r u n f f' g g') (hn : n ≤ 12) {i : Int} (hi : ¬ (0 ≤ i ∧ i < (compsTo f g n n).length)) : Ct (ctx.plus S) 17 [pO r u, pn i] 120000 fun v => v = .tup [pO [] [], pn 6] := by
  have hl := h.l1
  have hc := comps_len (n := n) (f := f) (g := g)
  have h0 := h.chk
  refine ct_of (hS 17 (by decide)) fn17 ?_
  refine ⟨by omega, by omega, ?_⟩
  refine ⟨_, rfl, ?_⟩
  refine callq rfl (check_ct S hS (by omega) (by omega)) (by omega) ?_
  rintro _ rfl
  rw [h0]
  refine ⟨fun h => absurd rfl h, fun _ => ?_⟩
  refine ⟨_, rfl, ?_⟩
  refine callq rfl (components_ct S hS h hn) (by omega) ?_
  rintro _ rfl
  refine ⟨⟨by omega, by omega⟩, ?_⟩
  refine callq rfl (within_ct S hS) (by omega) ?_
  rintro _ rfl
  rw [decide_eq_false (by omega)]
  refine ⟨_, rfl, ?_⟩
  refine ⟨_, _, rfl, ⟨rfl, Nat.le_of_ble_eq_true rfl, rfl⟩, _, rfl, _, rfl, ?_⟩
  refine ⟨_, rfl, ?_⟩
  exact ⟨⟨[], rfl⟩⟩
theorem comp_ok {n s : Nat} {f f' g g' : Nat → Nat} (pf : IsP n f f') (pg : IsP n g g') (hs : s < n) : compTo f g s n ≠ [] ∧ (∀ x ∈ compTo f g s n, x < n) ∧ (∀ x ∈ compTo f g s n, f x ∈ compTo f g s n) ∧ ∀ x ∈ compTo f g s n, g x ∈ compTo f g s n := by
  refine ⟨fun e => ?_, fun x hx => (mem_compTo.1 hx).1, fun x hx => ?_, fun x hx => ?_⟩
  · have : s ∈ compTo f g s n := mem_compTo.2 ⟨hs, .refl⟩
    rw [e] at this
    cases this
  · obtain ⟨h1, h2⟩ := mem_compTo.1 hx
    exact mem_compTo.2 ⟨pf.lt x h1, .f h2⟩
  · obtain ⟨h1, h2⟩ := mem_compTo.1 hx
    exact mem_compTo.2 ⟨pg.lt x h1, .g h2⟩
theorem ppart_ok (hS : OldO S) {r u : List Int} {n k s : Nat} {f f' g g' : Nat → Nat} (h : IsO r u n f f' g g') (hn : n ≤ 12) (hk : (lows f g n)[k]? = some s) : Ct (ctx.plus S) 17 [pO r u, pn k] 120000 fun v => v = .tup [pO (ptL (compTo f g s n) f (compTo f g s n).length) (ptL (compTo f g s n) g (compTo f g s n).length), pn 0] := by
  have hl := h.l1
  have hc := comps_len (n := n) (f := f) (g := g)
  have h0 := h.chk
  have hkl : k < (compsTo f g n n).length := by rw [compsTo_len]; exact (List.getElem?_eq_some_iff.1 hk).1
  have hget : (compsTo f g n n)[k]? = some (NL (compTo f g s n)) := by unfold compsTo; rw [List.getElem?_map, hk]; rfl
  have hsn : s < n := (mem_lows.1 (List.mem_of_getElem? hk)).1
  obtain ⟨q1, q2, q3, q4⟩ := comp_ok h.pr h.pu hsn
  refine ct_of (hS 17 (by decide)) fn17 ?_
  refine ⟨by omega, by omega, ?_⟩
  refine ⟨_, rfl, ?_⟩
  refine callq rfl (check_ct S hS (by omega) (by omega)) (by omega) ?_
  rintro _ rfl
  rw [h0]
  refine ⟨fun h => absurd rfl h, fun _ => ?_⟩
  refine ⟨_, rfl, ?_⟩
  refine callq rfl (components_ct S hS h hn) (by omega) ?_
  rintro _ rfl
  refine ⟨⟨by omega, by omega⟩, ?_⟩
  refine callq rfl (within_ct S hS) (by omega) ?_
  rintro _ rfl
  rw [decide_eq_true (by omega)]
  refine ⟨by kernel_rfl, ?_⟩
  refine ⟨_, rfl, rfl, ?_⟩
  refine ⟨⟨⟨by omega, by omega⟩, len_map_le (by omega)⟩, ?_⟩
  refine ⟨_, ld (at_map hget) (by show _ * 1 = k; omega), rfl, ?_⟩
  refine callq rfl (part_ct S hS h compTo_nodup q1 q2 q3 q4) (by omega) ?_
  rintro _ rfl
  refine ⟨_, _, rfl, ⟨rfl, Nat.le_of_ble_eq_true rfl, rfl⟩, _, rfl, _, rfl, ?_⟩
  refine ⟨_, rfl, ?_⟩
  exact endsq rfl rfl
end Go.PI
