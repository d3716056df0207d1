/- Own work of the verifier, group PiQ: PiNilLaw NilArg. -/
import Derived.Test.YtmoppnaoiihjfaaGreatDoorPiP
import Derived.Test.YtmoppnaoiihjfaaGreatDoorPiN
import Derived.Lib.SmallJoins
import Derived.Deep.Matrix
import Derived.ChangeSlices
set_option linter.all false
set_option linter.deprecated false
/- THE LAW OF THE NIL FIELD. -/
open Go.Proofs
namespace Go.PI
theorem fn18 : ctx.fn 18 = some c18 := by kernel_rfl
theorem mk_store {C : Ctx} {H : Heap} (hn : H.n + 1 < lim) {t : TypeId} {i : TI} (ht : C.ty t = some i) (vs : List AV) (hl : vs.length = i.size) (hz : i.zero.cells.length = i.size) (h1 : ones vs = true) :
    ∃ H', storeE C t (.ptr H.n 0) (.agg vs) (H.push (.cells true t i.zero.cells)) = some H' ∧ H'.n = H.n + 1 ∧ H'.get H.n = .cells true t vs ∧ ∀ A, A < H.n → H'.get A = H.get A := by
  have hp := Heap.get_push (H := H) (b := .cells true t i.zero.cells) (by omega)
  have hpn : (H.push (.cells true t i.zero.cells)).n = H.n + 1 := rfl
  have hs := Heap.get_set (H := H.push (.cells true t i.zero.cells)) (A := H.n) (b := .cells true t vs) (by omega) (by omega)
  refine ⟨_, store_all ht (by rw [hp, if_pos rfl]) hl hz h1, hpn, by rw [hs, if_pos rfl], fun A hA => by rw [hs, if_neg (by omega), hp, if_neg (by omega)]⟩
set_option maxRecDepth 100000
set_option maxHeartbeats 8000000
theorem nil_law {H : Heap} {a b c d : AV} {k : Int} {r1 r2 : List (List Int)} {x1 x2 : List Int} (hn : H.n + 2000 < lim) (hc1 : Seen2 H a r1) (hd1 : Seen H b x1) (hc2 : Seen2 H c r2) (hd2 : Seen H d x2)
    (hx1 : x1.length ≤ 9223372036854775807) (hr1 : r1.length ≤ 9223372036854775807) (hx2 : x2.length ≤ 9223372036854775807) (hr2 : r2.length ≤ 9223372036854775807) (ha : Smp a) (hb : Smp b) (hc : Smp c) (hd : Smp d)
    (o1 : ones [a, b, c, d] = true) :
    Cl ctx3 18 [.agg [a, b], .agg [c, d], iv k] H fun r _ => r = .bool true := by
  refine cl_of rfl fn18 ?_
  have hT : ctx3.ty = tget := rfl
  obtain ⟨g1, g2, g3, g4⟩ := three_get (H := H) (b1 := .cells true 61 [a, b]) (b2 := .cells true 61 [c, d]) (b3 := .cells true 61 [a, b, c, d]) (by omega)
  have e1 : ((H.push (.cells true 61 [a, b])).push (.cells true 61 [c, d])).get H.n = .cells true 61 [a, b] := by
    rw [Heap.get_push (by show H.n + 1 < lim; omega), if_neg (by show ¬ H.n = H.n + 1; omega), Heap.get_push (by omega), if_pos rfl]
  have e2 : ((H.push (.cells true 61 [a, b])).push (.cells true 61 [c, d])).get (H.n + 1) = .cells true 61 [c, d] := by
    rw [Heap.get_push (by show H.n + 1 < lim; omega), if_pos (show H.n + 1 = (H.push (.cells true 61 [a, b])).n from rfl)]
  refine ⟨by omega, (by show H.n + 1 < lim; omega), ?_⟩
  refine ⟨_, load_num (C := ctx3) hT (off := 0) e1 (by simp), ?_⟩
  refine ⟨_, load_num (C := ctx3) hT (off := 0) e2 (by simp), ?_⟩
  refine ⟨(by show H.n + 2 < lim; omega), _, _, rfl, ?_⟩
  have hk0 : ∀ A, A < H.n → (three H (.cells true 61 [a, b]) (.cells true 61 [c, d]) (.cells true 61 [a, b, c, d])).get A = H.get A := g4
  refine (small_run S3 rfl rfl (H := three H (.cells true 61 [a, b]) (.cells true 61 [c, d]) (.cells true 61 [a, b, c, d])) (b := H.n + 2) (by show H.n + 3 + 10 < lim; omega) g3 (hc1.mono hk0) (hd1.mono hk0) (hc2.mono hk0) (hd2.mono hk0) hx1 hr1 hx2 hr2).mono ?_
  rintro _ H4 ⟨⟨β, rfl⟩, hG⟩
  have n4 : H4.n ≤ H.n + 103 := hG.m
  have n4' : H.n + 3 ≤ H4.n := hG.n
  have gx4 : H4.get H.n = .cells true 61 [a, b] := by rw [hG.get _ (by show H.n < H.n + 3; omega)]; exact g1
  have gy4 : H4.get (H.n + 1) = .cells true 61 [c, d] := by rw [hG.get _ (by show H.n + 1 < H.n + 3; omega)]; exact g2
  clear hG g1 g2 g3 g4 e1 e2 hk0
  cases β with
  | false =>
    refine Cl.of_sum (v := .bool true) (H' := H4) rfl ?_
    exact rfl
  | true =>
  have sx : (AV.agg [a, b]).same (.agg [a, b]) = true := same_agg fun u hu => by simp only [List.mem_cons, List.not_mem_nil, or_false] at hu; rcases hu with rfl | rfl <;> assumption
  have sy : (AV.agg [c, d]).same (.agg [c, d]) = true := same_agg fun u hu => by simp only [List.mem_cons, List.not_mem_nil, or_false] at hu; rcases hu with rfl | rfl <;> assumption
  have sv : (AV.agg [a, b, c, d]).same (.agg [a, b, c, d]) = true := same_agg fun u hu => by simp only [List.mem_cons, List.not_mem_nil, or_false] at hu; rcases hu with rfl | rfl | rfl | rfl <;> assumption
  have sm : (AV.agg [a, b, c, d, c, d, a, b]).same (.agg [a, b, c, d, c, d, a, b]) = true := same_agg fun u hu => by simp only [List.mem_cons, List.not_mem_nil, or_false] at hu; rcases hu with rfl | rfl | rfl | rfl | rfl | rfl | rfl | rfl <;> assumption
  have o2 : ones [a, b, c, d, c, d, a, b] = true := by
    simp only [ones, Bool.and_eq_true, and_true] at o1 ⊢
    exact ⟨o1.1, o1.2.1, o1.2.2.1, o1.2.2.2, o1.2.2.1, o1.2.2.2, o1.1, o1.2.1⟩
  refine ⟨_, load_num (C := ctx3) hT (off := 0) gx4 (by simp), _, load_num (C := ctx3) hT (off := 0) gy4 (by simp), ?_⟩
  refine Cl.of_sum (v := tQ) (H' := H4) rfl ?_
  obtain ⟨H5, st5, n5, g5, k5⟩ := mk_store (C := ctx3) (H := H4) (by omega) (t := 61) (i := t61) rfl [.nils, .nils] rfl rfl rfl
  refine ⟨by omega, H5, st5, ?_⟩
  have gx5 : H5.get H.n = .cells true 61 [a, b] := by
    rw [k5 _ (by omega)]; exact gx4
  have gy5 : H5.get (H.n + 1) = .cells true 61 [c, d] := by
    rw [k5 _ (by omega)]; exact gy4
  refine ⟨_, load_num (C := ctx3) hT (off := 0) gx5 (by simp), ?_⟩
  refine Cl.of_sum (v := tS) (H' := H5) rfl ?_
  refine Cl.of_sum (v := tQ) (H' := H5) rfl ?_
  obtain ⟨H6, st6, n6, g6, k6⟩ := mk_store (C := ctx3) (H := H5) (by omega) (t := 61) (i := t61) rfl [.nils, .nils] rfl rfl rfl
  refine ⟨by omega, H6, st6, ?_⟩
  have gx6 : H6.get H.n = .cells true 61 [a, b] := by
    rw [k6 _ (by omega)]; exact gx5
  have gy6 : H6.get (H.n + 1) = .cells true 61 [c, d] := by
    rw [k6 _ (by omega)]; exact gy5
  refine ⟨.agg [.nils, .nils], rfl, ?_⟩
  obtain ⟨H7, st7, n7, g7, k7⟩ := mk_store (C := ctx3) (H := H6) (by omega) (t := 61) (i := t61) rfl [.nils, .nils] rfl rfl rfl
  refine ⟨by omega, H7, st7, ?_⟩
  have gx7 : H7.get H.n = .cells true 61 [a, b] := by
    rw [k7 _ (by omega)]; exact gx6
  have gy7 : H7.get (H.n + 1) = .cells true 61 [c, d] := by
    rw [k7 _ (by omega)]; exact gy6
  have gz7 : H7.get H6.n = .cells true 61 [.nils, .nils] := g7
  refine ⟨_, load_num (C := ctx3) hT (off := 0) gx7 (by simp), _, load_num (C := ctx3) hT (off := 0) gy7 (by simp), ?_⟩
  refine ⟨.agg [a, b, c, d], rfl, ?_⟩
  obtain ⟨H8, st8, n8, g8, k8⟩ := mk_store (C := ctx3) (H := H7) (by omega) (t := 92) (i := t92) rfl [a, b, c, d] rfl rfl o1
  refine ⟨by omega, H8, st8, ?_⟩
  have gx8 : H8.get H.n = .cells true 61 [a, b] := by
    rw [k8 _ (by omega)]; exact gx7
  have gy8 : H8.get (H.n + 1) = .cells true 61 [c, d] := by
    rw [k8 _ (by omega)]; exact gy7
  have gz8 : H8.get H6.n = .cells true 61 [.nils, .nils] := by
    rw [k8 _ (by omega)]; exact gz7
  have gv8 : H8.get H7.n = .cells true 92 [a, b, c, d] := g8
  refine ⟨_, load_num (C := ctx3) hT (off := 0) gx8 (by simp), _, load_num (C := ctx3) hT (off := 0) gy8 (by simp), _, load_num (C := ctx3) hT (off := 0) gy8 (by simp), _, load_num (C := ctx3) hT (off := 0) gx8 (by simp), ?_⟩
  refine ⟨.agg [a, b, c, d, c, d, a, b], rfl, ?_⟩
  obtain ⟨H9, st9, n9, g9, k9⟩ := mk_store (C := ctx3) (H := H8) (by omega) (t := 90) (i := t90) rfl [a, b, c, d, c, d, a, b] rfl rfl o2
  refine ⟨by omega, H9, st9, ?_⟩
  have gx9 : H9.get H.n = .cells true 61 [a, b] := by
    rw [k9 _ (by omega)]; exact gx8
  have gy9 : H9.get (H.n + 1) = .cells true 61 [c, d] := by
    rw [k9 _ (by omega)]; exact gy8
  have gz9 : H9.get H6.n = .cells true 61 [.nils, .nils] := by
    rw [k9 _ (by omega)]; exact gz8
  have gv9 : H9.get H7.n = .cells true 92 [a, b, c, d] := by
    rw [k9 _ (by omega)]; exact gv8
  have gm9 : H9.get H8.n = .cells true 90 [a, b, c, d, c, d, a, b] := g9
  have sz : (AV.agg [.nils, .nils]).same (.agg [.nils, .nils]) = true := rfl
  have gx0 := gx9
  have gy0 := gy9
  have gz0 := gz9
  have gv0 := gv9
  have gm0 := gm9
  have lx0 : loadE ctx3 61 (.ptr H.n 0) H9 = some (.agg [a, b]) := load_num (C := ctx3) hT (off := 0) gx0 (by simp)
  have ly0 : loadE ctx3 61 (.ptr (H.n + 1) 0) H9 = some (.agg [c, d]) := load_num (C := ctx3) hT (off := 0) gy0 (by simp)
  have lz0 : loadE ctx3 61 (.ptr H6.n 0) H9 = some (.agg [.nils, .nils]) := load_num (C := ctx3) hT (off := 0) gz0 (by simp)
  have lv0 : loadE ctx3 92 (.ptr H7.n 0) H9 = some (.agg [a, b, c, d]) := load_all (i := t92) rfl rfl gv0 rfl
  have lm0 : loadE ctx3 90 (.ptr H8.n 0) H9 = some (.agg [a, b, c, d, c, d, a, b]) := load_all (i := t90) rfl rfl gm0 rfl
  refine ⟨fun h => absurd rfl h, fun _ => ?_⟩
  refine ⟨fun h => absurd rfl h, fun _ => ?_⟩
  refine ⟨fun h => absurd rfl h, fun _ => ?_⟩
  refine ⟨_, rfl, ?_⟩
  refine ⟨fun h => absurd rfl h, fun _ => ?_⟩
  refine ⟨_, lx0, ?_⟩
  refine Cl.of_sum (v := .str .empty) (H' := H9) rfl ?_
  refine ⟨true, by simp, ?_⟩
  refine ⟨_, lx0, ?_⟩
  refine Cl.of_sum (v := iv 0) (H' := H9) rfl ?_
  refine ⟨fun h => absurd rfl h, fun _ => ?_⟩
  refine ⟨_, lx0, ?_⟩
  refine ⟨_, ly0, ?_⟩
  refine Cl.of_sum (v := iv 0) (H' := H9) rfl ?_
  refine ⟨fun h => absurd rfl h, fun _ => ?_⟩
  refine ⟨_, lx0, ?_⟩
  refine Cl.of_sum (v := .nils) (H' := H9) rfl ?_
  refine ⟨_, rfl, ?_⟩
  refine ⟨fun h => absurd rfl h, fun _ => ?_⟩
  refine Cl.of_sum (v := zF) (H' := H9) rfl ?_
  refine ⟨.nils, rfl, ?_⟩
  refine ⟨_, rfl, ?_⟩
  refine ⟨fun h => absurd rfl h, fun _ => ?_⟩
  refine ⟨_, lx0, ?_⟩
  refine Cl.of_sum (v := zN) (H' := H9) rfl ?_
  refine ⟨_, lz0, ?_⟩
  refine Cl.of_sum (v := .bool true) (H' := H9) rfl ?_
  refine ⟨_, lx0, ?_⟩
  refine ⟨_, ly0, ?_⟩
  refine Cl.of_sum (v := zN) (H' := H9) rfl ?_
  refine ⟨_, lz0, ?_⟩
  refine Cl.of_sum (v := .bool true) (H' := H9) rfl ?_
  refine ⟨_, lx0, ?_⟩
  refine ⟨_, ly0, ?_⟩
  refine Cl.of_sum (v := zN) (H' := H9) rfl ?_
  refine ⟨_, lz0, ?_⟩
  refine Cl.of_sum (v := .bool true) (H' := H9) rfl ?_
  refine ⟨_, lx0, ?_⟩
  refine ⟨_, ly0, ?_⟩
  refine Cl.of_sum (v := zN) (H' := H9) rfl ?_
  refine ⟨_, lz0, ?_⟩
  refine Cl.of_sum (v := .bool true) (H' := H9) rfl ?_
  refine ⟨_, lx0, ?_⟩
  refine Cl.of_sum (v := zN) (H' := H9) rfl ?_
  refine ⟨_, lz0, ?_⟩
  refine Cl.of_sum (v := .bool true) (H' := H9) rfl ?_
  refine ⟨_, lx0, ?_⟩
  refine Cl.of_sum (v := zN) (H' := H9) rfl ?_
  refine ⟨_, lz0, ?_⟩
  refine Cl.of_sum (v := .bool true) (H' := H9) rfl ?_
  refine ⟨_, lv0, ?_⟩
  refine ⟨_, lv0, ?_⟩
  refine Cl.of_sum (v := zN) (H' := H9) rfl ?_
  refine ⟨_, lz0, ?_⟩
  refine Cl.of_sum (v := .bool true) (H' := H9) rfl ?_
  refine ⟨draw_of H9 (by kernel_rfl) rfl ?_ ?_ ?_, ?_⟩
  · exact ⟨trivial, ⟨_, _, _, rfl, by omega, lx0, sx⟩, trivial, ⟨_, _, _, rfl, by omega, lz0, sz⟩, trivial, trivial, trivial, trivial, ⟨_, _, _, rfl, by omega, lx0, sx⟩, ⟨_, _, _, rfl, (show H.n + 1 < H9.n by omega), ly0, sy⟩, trivial, ⟨_, _, _, rfl, by omega, lz0, sz⟩, trivial, trivial, trivial, trivial, trivial, ⟨_, _, _, rfl, by omega, lx0, sx⟩, ⟨_, _, _, rfl, (show H.n + 1 < H9.n by omega), ly0, sy⟩, trivial, ⟨_, _, _, rfl, by omega, lz0, sz⟩, trivial, trivial, trivial, trivial, trivial, ⟨_, _, _, rfl, by omega, lx0, sx⟩, ⟨_, _, _, rfl, (show H.n + 1 < H9.n by omega), ly0, sy⟩, trivial, ⟨_, _, _, rfl, by omega, lz0, sz⟩, trivial, trivial, trivial, trivial, trivial, ⟨_, _, _, rfl, by omega, lx0, sx⟩, trivial, ⟨_, _, _, rfl, by omega, lz0, sz⟩, trivial, trivial, trivial, trivial, trivial, ⟨_, _, _, rfl, by omega, lx0, sx⟩, trivial, ⟨_, _, _, rfl, by omega, lz0, sz⟩, trivial, trivial, trivial, trivial, trivial, ⟨_, _, _, rfl, by omega, lv0, sv⟩, ⟨_, _, _, rfl, by omega, lv0, sv⟩, trivial, ⟨_, _, _, rfl, by omega, lz0, sz⟩, trivial, trivial, trivial, trivial⟩
  · repeat' (first | exact trivial | refine ⟨fun _ _ => rfl, ?_⟩)
  · repeat' (first | exact trivial | refine ⟨Nat.le_refl _, ?_⟩)
  refine ⟨.agg [.nils, .nils, .nils, .nils], rfl, ?_⟩
  obtain ⟨H10, st10, n10, g10, k10⟩ := mk_store (C := ctx3) (H := H9) (by omega) (t := 92) (i := t92) rfl [.nils, .nils, .nils, .nils] rfl rfl rfl
  refine ⟨by omega, H10, st10, ?_⟩
  have gx10 : H10.get H.n = .cells true 61 [a, b] := by
    rw [k10 _ (by omega)]; exact gx9
  have gy10 : H10.get (H.n + 1) = .cells true 61 [c, d] := by
    rw [k10 _ (by omega)]; exact gy9
  have gz10 : H10.get H6.n = .cells true 61 [.nils, .nils] := by
    rw [k10 _ (by omega)]; exact gz9
  have gv10 : H10.get H7.n = .cells true 92 [a, b, c, d] := by
    rw [k10 _ (by omega)]; exact gv9
  have gm10 : H10.get H8.n = .cells true 90 [a, b, c, d, c, d, a, b] := by
    rw [k10 _ (by omega)]; exact gm9
  have gw10 : H10.get H9.n = .cells true 92 [.nils, .nils, .nils, .nils] := g10
  have sw : (AV.agg [.nils, .nils, .nils, .nils]).same (.agg [.nils, .nils, .nils, .nils]) = true := rfl
  clear lx0 ly0 lz0 lv0 lm0 gx0 gy0 gz0 gv0 gm0
  have gx0 := gx10
  have gv0 := gv10
  have gm0 := gm10
  have gw0 := gw10
  have lx0 : loadE ctx3 61 (.ptr H.n 0) H10 = some (.agg [a, b]) := load_num (C := ctx3) hT (off := 0) gx0 (by simp)
  have lv0 : loadE ctx3 92 (.ptr H7.n 0) H10 = some (.agg [a, b, c, d]) := load_all (i := t92) rfl rfl gv0 rfl
  have lm0 : loadE ctx3 90 (.ptr H8.n 0) H10 = some (.agg [a, b, c, d, c, d, a, b]) := load_all (i := t90) rfl rfl gm0 rfl
  have lw0 : loadE ctx3 92 (.ptr H9.n 0) H10 = some (.agg [.nils, .nils, .nils, .nils]) := load_all (i := t92) rfl rfl gw0 rfl
  refine ⟨_, lv0, ?_⟩
  refine ⟨_, lv0, ?_⟩
  refine (sum_run S3 rfl rfl (H := H10) (by omega) (fun u hu => by simp only [List.mem_cons, List.not_mem_nil, or_false] at hu; rcases hu with rfl | rfl | rfl | rfl <;> assumption) (fun u hu => by simp only [List.mem_cons, List.not_mem_nil, or_false] at hu; rcases hu with rfl | rfl | rfl | rfl <;> assumption)).mono ?_
  rintro _ H11 ⟨rfl, hG1⟩
  have m1 := hG1.n
  have m1' := hG1.m
  have w1 : ∀ A, A < H10.n → H11.get A = H10.get A := fun A hA => (hG1.get A (by omega)).trans rfl
  have gx1 : H11.get H.n = .cells true 61 [a, b] := by rw [w1 _ (by omega)]; exact gx0
  have gv1 : H11.get H7.n = .cells true 92 [a, b, c, d] := by rw [w1 _ (by omega)]; exact gv0
  have gm1 : H11.get H8.n = .cells true 90 [a, b, c, d, c, d, a, b] := by rw [w1 _ (by omega)]; exact gm0
  have gw1 : H11.get H9.n = .cells true 92 [.nils, .nils, .nils, .nils] := by rw [w1 _ (by omega)]; exact gw0
  have lx1 : loadE ctx3 61 (.ptr H.n 0) H11 = some (.agg [a, b]) := load_num (C := ctx3) hT (off := 0) gx1 (by simp)
  have lv1 : loadE ctx3 92 (.ptr H7.n 0) H11 = some (.agg [a, b, c, d]) := load_all (i := t92) rfl rfl gv1 rfl
  have lm1 : loadE ctx3 90 (.ptr H8.n 0) H11 = some (.agg [a, b, c, d, c, d, a, b]) := load_all (i := t90) rfl rfl gm1 rfl
  have lw1 : loadE ctx3 92 (.ptr H9.n 0) H11 = some (.agg [.nils, .nils, .nils, .nils]) := load_all (i := t92) rfl rfl gw1 rfl
  refine ⟨_, lw1, ?_⟩
  refine Cl.of_sum (v := .bool true) (H' := H11) rfl ?_
  refine ⟨_, lx1, ?_⟩
  refine ⟨_, lv1, ?_⟩
  refine (times_run S3 rfl rfl (H := H11) (by omega) (fun u hu => by simp only [List.mem_cons, List.not_mem_nil, or_false] at hu; rcases hu with rfl | rfl <;> assumption) (fun u hu => by simp only [List.mem_cons, List.not_mem_nil, or_false] at hu; rcases hu with rfl | rfl | rfl | rfl <;> assumption)).mono ?_
  rintro _ H12 ⟨rfl, hG2⟩
  have m2 := hG2.n
  have m2' := hG2.m
  have w2 : ∀ A, A < H10.n → H12.get A = H10.get A := fun A hA => (hG2.get A (by omega)).trans (w1 A hA)
  have gx2 : H12.get H.n = .cells true 61 [a, b] := by rw [w2 _ (by omega)]; exact gx0
  have gv2 : H12.get H7.n = .cells true 92 [a, b, c, d] := by rw [w2 _ (by omega)]; exact gv0
  have gm2 : H12.get H8.n = .cells true 90 [a, b, c, d, c, d, a, b] := by rw [w2 _ (by omega)]; exact gm0
  have gw2 : H12.get H9.n = .cells true 92 [.nils, .nils, .nils, .nils] := by rw [w2 _ (by omega)]; exact gw0
  have lx2 : loadE ctx3 61 (.ptr H.n 0) H12 = some (.agg [a, b]) := load_num (C := ctx3) hT (off := 0) gx2 (by simp)
  have lv2 : loadE ctx3 92 (.ptr H7.n 0) H12 = some (.agg [a, b, c, d]) := load_all (i := t92) rfl rfl gv2 rfl
  have lm2 : loadE ctx3 90 (.ptr H8.n 0) H12 = some (.agg [a, b, c, d, c, d, a, b]) := load_all (i := t90) rfl rfl gm2 rfl
  have lw2 : loadE ctx3 92 (.ptr H9.n 0) H12 = some (.agg [.nils, .nils, .nils, .nils]) := load_all (i := t92) rfl rfl gw2 rfl
  refine ⟨_, lw2, ?_⟩
  refine Cl.of_sum (v := .bool true) (H' := H12) rfl ?_
  refine ⟨_, lm2, ?_⟩
  refine ⟨_, lv2, ?_⟩
  refine (apply_run S3 rfl rfl (H := H12) (by omega) (fun u hu => by simp only [List.mem_cons, List.not_mem_nil, or_false] at hu; rcases hu with rfl | rfl | rfl | rfl | rfl | rfl | rfl | rfl <;> assumption) (fun u hu => by simp only [List.mem_cons, List.not_mem_nil, or_false] at hu; rcases hu with rfl | rfl | rfl | rfl <;> assumption)).mono ?_
  rintro _ H13 ⟨rfl, hG3⟩
  have m3 := hG3.n
  have m3' := hG3.m
  have w3 : ∀ A, A < H10.n → H13.get A = H10.get A := fun A hA => (hG3.get A (by omega)).trans (w2 A hA)
  have gx3 : H13.get H.n = .cells true 61 [a, b] := by rw [w3 _ (by omega)]; exact gx0
  have gv3 : H13.get H7.n = .cells true 92 [a, b, c, d] := by rw [w3 _ (by omega)]; exact gv0
  have gm3 : H13.get H8.n = .cells true 90 [a, b, c, d, c, d, a, b] := by rw [w3 _ (by omega)]; exact gm0
  have gw3 : H13.get H9.n = .cells true 92 [.nils, .nils, .nils, .nils] := by rw [w3 _ (by omega)]; exact gw0
  have lx3 : loadE ctx3 61 (.ptr H.n 0) H13 = some (.agg [a, b]) := load_num (C := ctx3) hT (off := 0) gx3 (by simp)
  have lv3 : loadE ctx3 92 (.ptr H7.n 0) H13 = some (.agg [a, b, c, d]) := load_all (i := t92) rfl rfl gv3 rfl
  have lm3 : loadE ctx3 90 (.ptr H8.n 0) H13 = some (.agg [a, b, c, d, c, d, a, b]) := load_all (i := t90) rfl rfl gm3 rfl
  have lw3 : loadE ctx3 92 (.ptr H9.n 0) H13 = some (.agg [.nils, .nils, .nils, .nils]) := load_all (i := t92) rfl rfl gw3 rfl
  refine ⟨_, lw3, ?_⟩
  refine Cl.of_sum (v := .bool true) (H' := H13) rfl ?_
  refine ⟨_, lm3, ?_⟩
  refine ⟨_, lm3, ?_⟩
  refine (mat_run S3 rfl rfl (H := H13) (by omega) (fun u hu => by simp only [List.mem_cons, List.not_mem_nil, or_false] at hu; rcases hu with rfl | rfl | rfl | rfl | rfl | rfl | rfl | rfl <;> assumption) (fun u hu => by simp only [List.mem_cons, List.not_mem_nil, or_false] at hu; rcases hu with rfl | rfl | rfl | rfl | rfl | rfl | rfl | rfl <;> assumption)).mono ?_
  rintro _ H14 ⟨rfl, hG4⟩
  have m4 := hG4.n
  have m4' := hG4.m
  have w4 : ∀ A, A < H10.n → H14.get A = H10.get A := fun A hA => (hG4.get A (by omega)).trans (w3 A hA)
  have gx4 : H14.get H.n = .cells true 61 [a, b] := by rw [w4 _ (by omega)]; exact gx0
  have gv4 : H14.get H7.n = .cells true 92 [a, b, c, d] := by rw [w4 _ (by omega)]; exact gv0
  have gm4 : H14.get H8.n = .cells true 90 [a, b, c, d, c, d, a, b] := by rw [w4 _ (by omega)]; exact gm0
  have gw4 : H14.get H9.n = .cells true 92 [.nils, .nils, .nils, .nils] := by rw [w4 _ (by omega)]; exact gw0
  have lx4 : loadE ctx3 61 (.ptr H.n 0) H14 = some (.agg [a, b]) := load_num (C := ctx3) hT (off := 0) gx4 (by simp)
  have lv4 : loadE ctx3 92 (.ptr H7.n 0) H14 = some (.agg [a, b, c, d]) := load_all (i := t92) rfl rfl gv4 rfl
  have lm4 : loadE ctx3 90 (.ptr H8.n 0) H14 = some (.agg [a, b, c, d, c, d, a, b]) := load_all (i := t90) rfl rfl gm4 rfl
  have lw4 : loadE ctx3 92 (.ptr H9.n 0) H14 = some (.agg [.nils, .nils, .nils, .nils]) := load_all (i := t92) rfl rfl gw4 rfl
  refine ⟨.agg [.nils, .nils, .nils, .nils, .nils, .nils, .nils, .nils], rfl, ?_⟩
  refine Cl.of_sum (v := .bool true) (H' := H14) rfl ?_
  refine Cl.of_sum (v := .bool true) (H' := H14) rfl ?_
  refine ⟨draw_of H10 (by kernel_rfl) rfl ?_ ?_ ?_, ?_⟩
  · exact ⟨trivial, ⟨_, _, _, rfl, by omega, lv0, sv⟩, ⟨_, _, _, rfl, by omega, lv0, sv⟩, trivial, ⟨_, _, _, rfl, by omega, lw0, sw⟩, trivial, trivial, trivial, ⟨_, _, _, rfl, by omega, lx0, sx⟩, ⟨_, _, _, rfl, by omega, lv0, sv⟩, trivial, ⟨_, _, _, rfl, by omega, lw0, sw⟩, trivial, trivial, trivial, trivial, ⟨_, _, _, rfl, by omega, lm0, sm⟩, ⟨_, _, _, rfl, by omega, lv0, sv⟩, trivial, ⟨_, _, _, rfl, by omega, lw0, sw⟩, trivial, trivial, trivial, trivial, ⟨_, _, _, rfl, by omega, lm0, sm⟩, ⟨_, _, _, rfl, by omega, lm0, sm⟩, trivial, trivial, trivial, trivial, trivial, trivial, trivial, trivial, trivial⟩
  · repeat' (first | exact trivial | refine ⟨by first | exact fun _ _ => rfl | exact w1 | exact w2 | exact w3 | exact w4, ?_⟩)
  · repeat' (first | exact trivial | refine ⟨by first | exact Nat.le_refl _ | exact m1 | exact m2 | exact m3 | exact m4, ?_⟩)
  · exact rfl
end Go.PI

/- THE ARGUMENTS OF FieldNil, AND ITS CALLS. -/
open Go.Proofs
namespace Go.PI
open Go.ChangeShapes Go.WideShapes Go.ChangeAt Go.RowKit

theorem smp_of {v : AV} {n : Nat} (h : slen v = some n) : Smp v ∧ v.one = true := by
  cases v <;> simp only [slen] at h <;> first | (cases h; done) | skip
  all_goals first
    | exact ⟨rfl, rfl⟩
    | exact ⟨by simp [Smp, AV.sames], rfl⟩
theorem nc59 : Tryz.prog.cellsOf 59 = 1 := by kernel_rfl
theorem nc22 : Tryz.prog.cellsOf 22 = 1 := by kernel_rfl
theorem nc3 : Tryz.prog.cellsOf 3 = 1 := by kernel_rfl
theorem nc61 : Tryz.prog.cellsOf 61 = 2 := by kernel_rfl
/-- the two cells of a number that came in -/
theorem imp_num {H : Type} {enc : TypeId × Value → H} {W : World} {μ : M} {Hp : Heap} (h : Imp W μ Hp) (hn : Hp.n + 1002 < lim) {fuel : Nat} {v0 v1 : Value} {y0 y1 : DataW H × List MemPlace}
    (h0 : DataW.trod enc Tryz.prog W 0 (fun _ => true) true fuel 59 [v0] = some y0) (h1 : DataW.trod enc Tryz.prog W 0 (fun _ => true) true fuel 22 [v1] = some y1) :
    ∃ (μ' : M) (H' : Heap) (a b : AV) (rows : List (List Int)) (xs : List Int), Imp W μ' H' ∧ M.le μ μ' ∧ (∀ B, B < Hp.n → H'.get B = Hp.get B) ∧ Hp.n ≤ H'.n ∧ H'.n ≤ Hp.n + 1002 ∧ VR μ' a v0 ∧ VR μ' b v1 ∧
      Seen2 H' a rows ∧ Seen H' b xs ∧ rows.length ≤ 9223372036854775807 ∧ xs.length ≤ 9223372036854775807 := by
  have hm : maxLen = 9223372036854775807 := rfl
  obtain ⟨μ1, H1, a, rows, i1, le1, k1, n1, m1, va, sa, la⟩ : ∃ (μ' : M) (H' : Heap) (a : AV) (rows : List (List Int)), Imp W μ' H' ∧ M.le μ μ' ∧ (∀ B, B < Hp.n → H'.get B = Hp.get B) ∧ Hp.n ≤ H'.n ∧ H'.n ≤ Hp.n + 1001 ∧ VR μ' a v0 ∧ Seen2 H' a rows ∧ rows.length ≤ 9223372036854775807 := by
    rcases Go.Deep.open_int_rows Tryz.underlying59 Tryz.underlying22 Tryz.underlying3 nc22 nc3 h0 with ⟨hcs, -⟩ | ⟨a, len, cap, A, L, C, Z, hcs, -, hl, hc, -, hr⟩
    · obtain rfl : v0 = .slice none 0 0 := by simpa using hcs
      exact ⟨μ, Hp, .nils, [], h, M.le.refl _, fun _ _ => rfl, Nat.le_refl _, by omega, .nils, ⟨rfl, fun _ => rfl⟩, by simp⟩
    · obtain rfl : v0 = .slice (some a) len cap := by simpa using hcs
      obtain ⟨μ', H', v', g1, g2, g3, g4, g5, g6, g7⟩ := imp_rows (A := A) (L := L) (C := C) (Z := Z) h (a := some a) (len := len) (cap := cap) (by omega) (fun e => by cases e) hl (fun b hb r hrl => by
        cases hb
        obtain ⟨r1, r2, r3, r4, r5, r6, r7⟩ := hr r (by omega)
        exact ⟨r1, r2, by omega, r6, fun a' ha' c hcl => (r7 a' ha').2 c (by omega)⟩)
      exact ⟨μ', H', v', _, g1, g2, g3, g4, g5, g6, g7, by simp; omega⟩
  obtain ⟨μ2, H2, b, xs, i2, le2, k2, n2, m2, vb, sb, lb⟩ : ∃ (μ' : M) (H' : Heap) (b : AV) (xs : List Int), Imp W μ' H' ∧ M.le μ1 μ' ∧ (∀ B, B < H1.n → H'.get B = H1.get B) ∧ H1.n ≤ H'.n ∧ H'.n ≤ H1.n + 1 ∧ VR μ' b v1 ∧ Seen H' b xs ∧ xs.length ≤ 9223372036854775807 := by
    rcases open_ints Tryz.underlying22 Tryz.underlying3 nc3 h1 with ⟨hcs, -⟩ | ⟨a, len, cap, zs, hcs, -, hl, hc, hz, -, hcell, -⟩
    · obtain rfl : v1 = .slice none 0 0 := by simpa using hcs
      exact ⟨μ1, H1, .nils, [], i1, M.le.refl _, fun _ _ => rfl, Nat.le_refl _, by omega, .nils, ⟨rfl, fun _ => rfl⟩, by simp⟩
    · obtain rfl : v1 = .slice (some a) len cap := by simpa using hcs
      simp only [if_true] at hz
      obtain ⟨μ', H', v', g1, g2, g3, g4, g5, g6, g7⟩ := imp_slice (A := some a) (L := len) (C := cap) (Z := zs) i1 (by omega) hl (by omega) (fun e => by cases e) (fun a' ha' c hcl => by
        cases ha'
        exact hcell c (by omega))
      exact ⟨μ', H', v', _, g1, g2, g3, g4, g5, g6, g7, by simp; omega⟩
  exact ⟨μ2, H2, a, b, rows, xs, i2, le1.trans le2, fun B hB => (k2 B (by omega)).trans (k1 B hB), by omega, by omega, va.mono le2, vb, sa.mono k2, sb, la, lb⟩

/-- the calls of FieldNil -/
theorem nil_calls {H : Type} {enc : TypeId × Value → H} {W : World} {fu1 fu2 : Nat} {v0 v1 v2 v3 : Value} {n : Int} {y0 y1 y2 y3 : DataW H × List MemPlace}
    (h0 : DataW.trod enc Tryz.prog W 0 (fun _ => true) true fu1 59 [v0] = some y0) (h1 : DataW.trod enc Tryz.prog W 0 (fun _ => true) true fu1 22 [v1] = some y1)
    (h2 : DataW.trod enc Tryz.prog W 0 (fun _ => true) true fu2 59 [v2] = some y2) (h3 : DataW.trod enc Tryz.prog W 0 (fun _ => true) true fu2 22 [v3] = some y3) :
    Calls Tryz.prog 18 #[.agg #[v0, v1], .agg #[v2, v3], .int .i64 n] W fun e w' => e = .returned (.bool true) ∧ Below W.heap.size W w' := by
  have hz : (⟨0, .nil⟩ : Heap).n = 0 := rfl
  have hlim : lim > 10000 := by unfold lim; omega
  obtain ⟨μ1, H1, a, b, r1, x1, i1, le1, k1, n1, m1, va, vb, sa, sb, la, lb⟩ := imp_num (imp0 W) (by omega) h0 h1
  obtain ⟨μ2, H2, c, d, r2, x2, i2, le2, k2, n2, m2, vc, vd, sc, sd, lc, ld⟩ := imp_num i1 (by omega) h2 h3
  have sa' := sa.mono k2
  have sb' := sb.mono k2
  obtain ⟨k, r, H', hc, rfl⟩ := nil_law (k := n) (by omega) sa' sb' sc sd lb la ld lc (smp_of sa.1).1 (smp_of sb.1).1 (smp_of sc.1).1 (smp_of sd.1).1
    (by simp [ones, (smp_of sa.1).2, (smp_of sb.1).2, (smp_of sc.1).2, (smp_of sd.1).2])
  have hC := ctx3_ok ctx2_fine
  rcases callF_sim hC (sound hC k) hc (args := #[.agg #[v0, v1], .agg #[v2, v3], .int .i64 n]) (.cons (.agg (.cons (va.mono le2) (.cons (vb.mono le2) .nil))) (.cons (.agg (.cons vc (.cons vd .nil))) (.cons (.int _ _) .nil))) i2.hr with ⟨u, w', hrun, -⟩ | ⟨-, hcalls⟩
  · exfalso
    obtain ⟨fn', f1, f2, f3, f4, f5⟩ := hC.fn 18 _ (show ctx3.fn 18 = some c18 from fn18)
    have f5' : ¬ fn'.name = "runtime.NumGoroutine" := by simpa using f5
    simp [callFunc, f1, f5', f4] at hrun
  · have hw : Calls Tryz.prog 18 #[.agg #[v0, v1], .agg #[v2, v3], .int .i64 n] W fun e w' => ∃ u, e = .returned u ∧ EffR μ2 H2 W (.bool true) H' u w' := callsIn_wide.1 (hcalls Fence.wide 0 ⟨fun _ => trivial, rfl⟩)
    refine hw.mono ?_
    rintro e w' ⟨u, rfl, hE⟩
    refine ⟨?_, below_of i2.no hE⟩
    obtain ⟨μ', hv, -⟩ := hE
    rw [hv.bool_inv]
end Go.PI

