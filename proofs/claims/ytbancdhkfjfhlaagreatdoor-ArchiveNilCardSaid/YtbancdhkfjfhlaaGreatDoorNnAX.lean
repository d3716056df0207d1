/- Own work of the verifier: NlDel. -/
import Derived.Test.YtbancdhkfjfhlaaGreatDoorProg
import Derived.Test.YtbancdhkfjfhlaaGreatDoorNnAW
import Derived.Test.YtbancdhkfjfhlaaGreatDoorNnAL
import Derived.Shelf.Slices.Delete
import Derived.KernelRfl
set_option linter.all false
set_option exponentiation.threshold 3000
set_option linter.deprecated false
/- slices.Delete AS THE LIBRARY's CONTRACT HAS IT, and as a summary. -/
namespace Go.Proofs
open Go.Shelf Go.RowKit Go.Sort
def Tryz.laysDel_ren : Go.Shelf.Ren := ⟨fun | 23 => 225 | n => n, fun | 22 => 22 | 3 => 3 | 4 => 4 | 0 => 0 | n => n, fun | n => n⟩
theorem Tryz.laysDel : Go.Proofs.Lays2.n23 Tryz.prog Tryz.laysDel_ren where
  mixed := by kernel_rfl
  f23 := Tryz.func225.trans (congrArg some (by kernel_rfl))
  t0 := Tryz.underlying0
  a0 := Tryz.isAgg0
  z0 := Tryz.sizeOf0
  v0 := Tryz.zeroValue0
  t3 := Tryz.underlying3
  a3 := Tryz.isAgg3
  z3 := Tryz.sizeOf3
  v3 := Tryz.zeroValue3
  t4 := Tryz.underlying4
  a4 := Tryz.isAgg4
  z4 := Tryz.sizeOf4
  v4 := Tryz.zeroValue4
  t22 := Tryz.underlying22
  a22 := Tryz.isAgg22
  z22 := Tryz.sizeOf22
  v22 := Tryz.zeroValue22
  i3 := by kernel_rfl
theorem Tryz.fDel : Tryz.laysDel_ren.f 23 = 225 := rfl
theorem Tryz.del_gives (blk off cap i j : Nat) (zs : List Int) (w : World) (hH : Holds (Value.int .i64) w blk off zs.toArray) (hcap : zs.length ≤ cap) (hm : cap ≤ 9223372036854775807) (hij : i ≤ j) (hj : j ≤ zs.length) :
    Calls Tryz.prog 225 #[.slice (some ⟨blk, off, none⟩) zs.length cap, .int .i64 i, .int .i64 j] w fun e w' =>
      e = .returned (.slice (some ⟨blk, off, none⟩) (zs.length - (j - i)) cap) ∧ ∃ q, w' = putRow (Value.int .i64) (Sort.ahead w q) blk off (zs.take i ++ zs.drop j ++ List.replicate (j - i) 0).toArray := by
  have h := Any.slices_Delete_int (ρ := Tryz.laysDel_ren) Tryz.laysDel blk off cap i j zs w hH hcap hm hij hj
  rw [Tryz.fDel] at h
  exact h
end Go.Proofs
open Go.Proofs
namespace Go.PI
open Go.RowKit Go.Sort
set_option maxRecDepth 100000
theorem callsIn_wd {P : Program} {f : FuncId} {args : Array Value} {w : World} {R : Ending → World → Prop} (h : Calls P f args w R) {F : Fence} {n : Nat} (hF : Wd F) : CallsIn F n P f args w R := by
  refine ⟨hF.1 f, fun cs _ => ?_⟩
  obtain ⟨e, w', fr, r, s, x⟩ := h cs
  have hm : ∀ m, Machine.fenced P F m := fun m g _ => ⟨fun ha => (by rw [hF.2.2] at ha; cases ha), .inl (hF.1 _), fun _ _ => hF.1 _, fun d hd => (by rw [hF.2.1] at hd; cases hd)⟩
  refine ⟨e, w', fr, r, ?_, x⟩
  cases e with
  | returned v => exact (StepsIn.of_steps s).mono fun m _ => hm m
  | panicked c => exact (StepsIn.of_steps s).mono fun m _ => hm m
  | outgrown => exact s
def intsOf : List AV → Option (List Int)
  | [] => some []
  | .int .i64 n :: r => match intsOf r with
    | some xs => some (n :: xs)
    | none => none
  | _ => none
theorem intsOf_eq : ∀ {us : List AV} {xs : List Int}, intsOf us = some xs → us = ints xs
  | [], xs, h => by cases h; rfl
  | a :: us, xs, h => by
    unfold intsOf at h
    split at h
    · rename_i h0; cases h0
    · rename_i n r h0
      cases h0
      split at h
      · rename_i ys hy
        cases h
        rw [intsOf_eq hy]
        rfl
      · cases h
    · cases h
def delL (xs : List Int) (i j : Nat) : List Int := xs.take i ++ xs.drop j ++ List.replicate (j - i) 0
theorem delL_len {xs : List Int} {i j : Nat} (h : i ≤ j) (hj : j ≤ xs.length) : (delL xs i j).length = xs.length := by simp [delL]; omega
def delB (b n i j : Nat) (H : Heap) : Option (AV × Heap) :=
  if 0 < n ∧ i ≤ j ∧ j ≤ n then
    match H.get b with
    | .cells true 3 cs => if n ≤ cs.length then (match intsOf (cs.take n) with
      | some xs => some (.slu b 0 (n - (j - i)) 1, H.set b (.cells true 3 (ints (delL xs i j) ++ cs.drop n)))
      | none => none) else none
    | _ => none
  else none
def sDel (us : List AV) (H : Heap) : Option (AV × Heap) :=
  match us with
  | [.slu b 0 n 1, .int .i64 i, .int .i64 j] => if 0 ≤ i ∧ 0 ≤ j then delB b n i.toNat j.toNat H else none
  | _ => none
theorem delB_sum {μ : M} {H H' : Heap} {v : AV} {b n : Nat} {i j : Nat} (hS : delB b n i j H = some (v, H')) {bi : BI} (hm : μ b = some bi) {cap : Nat} (hnc : n ≤ cap) (hcm : cap ≤ maxLen) (htop : 0 + cap * 1 ≤ bi.top) {w : World} (hH : HR μ H w) :
    CallR Tryz.prog μ H w 225 #[.slice (some ⟨bi.c, bi.base + 0, none⟩) n cap, .int .i64 i, .int .i64 j] v H' := by
  unfold delB at hS
  split at hS
  · rename_i hn
    split at hS
    · rename_i cs hg
      split at hS
      · rename_i hcs
        split at hS
        · rename_i xs hx
          cases hS
          have hi := intsOf_eq hx
          have hxl : xs.length = n := by
            have := congrArg List.length hi
            rw [List.length_take, ints_length] at this
            omega
          obtain ⟨ys, hys⟩ : ∃ ys, ys = delL xs i j := ⟨_, rfl⟩
          rw [← hys]
          obtain ⟨hbc, carr, fz, q1, q2, q3, q4, q5, q6⟩ := hH.blk b bi (by rw [hg]; rfl) hm |>.imp_right (fun h => by rw [hg] at h; exact h)
          have hfz := q5 rfl
          subst hfz
          have hcell : ∀ j, j < n → carr[bi.base + j]? = some (.int .i64 (xs.getD j 0)) := fun j hj => by
            have h1 : cs[j]? = some (.int .i64 (xs.getD j 0)) := by
              have : (cs.take n)[j]? = (ints xs)[j]? := by rw [hi]
              rw [List.getElem?_take, if_pos hj] at this
              rw [this, ints, List.getElem?_map, List.getD_eq_getElem?_getD, List.getElem?_eq_getElem (by omega)]
              rfl
            obtain ⟨u, h2, h3⟩ := q4.get h1
            cases h3
            rw [List.getElem?_take, if_pos (by omega), List.getElem?_drop, Array.getElem?_toList] at h2
            exact h2
          have hHold : Holds (Value.int .i64) w bi.c (bi.base + 0) xs.toArray := fun j hj => by
            have hj' : j < n := by simpa [hxl] using hj
            refine ⟨?_, by simp [World.frozen?, q1]⟩
            simp only [World.cell?, q1, Option.isSome_none, Bool.false_eq_true, if_false, Nat.add_zero]
            rw [hcell j hj']
            simp [List.getD_eq_getElem?_getD, List.getElem?_eq_getElem (show j < xs.length by omega), show j < xs.length by omega]
          obtain ⟨fn', f1, f2, f3, f4, f5⟩ := ctx_ok.fn 225 c225 (by kernel_rfl)
          have f5' : ¬ fn'.name = "runtime.NumGoroutine" := by simpa using f5
          have hgv := Tryz.del_gives bi.c (bi.base + 0) cap i j xs w hHold (by omega) hcm hn.2.1 (by omega)
          rw [hxl] at hgv
          change Calls Tryz.prog 225 _ w fun e w' => _ ∧ ∃ q, w' = putRow (Value.int .i64) (Sort.ahead w q) bi.c (bi.base + 0) (delL xs i j).toArray at hgv
          rw [← hys] at hgv
          refine .inr ⟨by simp [callFunc, f1, f5', f4], fun F m hF => (callsIn_wd hgv hF).mono ?_⟩
          rintro e w' ⟨rfl, k, rfl⟩
          refine ⟨_, rfl, ?_⟩
          have hyl : ys.length = n := by rw [hys, delL_len hn.2.1 (by omega), hxl]
          have hp : (putRow (Value.int .i64) (Sort.ahead w k) bi.c (bi.base + 0) (ys).toArray).heap[bi.c]? = some (.cells (putCells (Value.int .i64) (bi.base + 0) (ys).toArray carr) 3 (0, 0)) := by
            simp [putRow, mapBlock, Sort.ahead, Array.getElem?_modify, q1, onCells]
          have hk : ∀ j, j ≠ bi.c → (putRow (Value.int .i64) (Sort.ahead w k) bi.c (bi.base + 0) (ys).toArray).heap[j]? = w.heap[j]? := fun j hj => by
            simp [putRow, mapBlock, Sort.ahead, Array.getElem?_modify, Ne.symm hj]
          have hsz : (putRow (Value.int .i64) (Sort.ahead w k) bi.c (bi.base + 0) (ys).toArray).heap.size = w.heap.size := by
            simp [putRow, mapBlock, Sort.ahead]
          have hso : SameOut w (putRow (Value.int .i64) (Sort.ahead w k) bi.c (bi.base + 0) (ys).toArray) := ⟨rfl, rfl, rfl⟩
          have hbr : BlkR μ (putRow (Value.int .i64) (Sort.ahead w k) bi.c (bi.base + 0) (ys).toArray) bi (.cells true 3 (ints (ys) ++ cs.drop n)) := by
            refine ⟨_, _, hp, by simp [putCells, q2], by rw [List.length_append, ints_length, hyl, List.length_drop]; omega, ?_, fun _ => rfl, q6⟩
            refine All2.of_get ?_ fun i a v ha hv => ?_
            · have hps : (putCells (Value.int .i64) (bi.base + 0) (ys).toArray carr).toList.length = carr.size := by
                rw [Array.length_toList]
                simp [putCells]
              rw [List.length_append, ints_length, hyl, List.length_drop, List.length_take, List.length_drop, hps]
              omega
            · have hil := (List.getElem?_eq_some_iff.1 ha).1
              rw [List.length_append, ints_length, hyl, List.length_drop] at hil
              rw [List.getElem?_take, if_pos (by rw [List.length_append, ints_length, hyl, List.length_drop]; omega), List.getElem?_drop, Array.getElem?_toList] at hv
              simp only [putCells, Array.getElem?_mapIdx] at hv
              have hci : ∃ u, carr[bi.base + i]? = some u := ⟨_, Array.getElem?_eq_getElem (by omega)⟩
              obtain ⟨u, hu⟩ := hci
              rw [hu] at hv
              simp only [Option.map_some, Option.some.injEq] at hv
              by_cases hin : i < n
              · rw [if_pos ⟨by omega, by simp [hyl]; omega⟩] at hv
                rw [List.getElem?_append_left (by rw [ints_length]; omega), ints, List.getElem?_map, List.getElem?_eq_getElem (by omega)] at ha
                cases ha
                subst hv
                have e : bi.base + i - (bi.base + 0) = i := by omega
                rw [e]
                have : (ys).toArray[i]! = (ys)[i]'(by omega) := by
                  rw [getElem!_pos _ i (by simp; omega)]
                  simp
                rw [this]
                exact .int _ _
              · rw [if_neg (fun h => hin (by have := h.2; simp [hyl] at this; omega))] at hv
                subst hv
                rw [List.getElem?_append_right (by rw [ints_length]; omega), ints_length, hyl, List.getElem?_drop, show n + (i - n) = i by omega] at ha
                obtain ⟨u', h2, h3⟩ := q4.get ha
                rw [List.getElem?_take, if_pos (by omega), List.getElem?_drop, Array.getElem?_toList, hu] at h2
                cases h2
                exact h3
          obtain ⟨g1, g2⟩ := hH.set (b := b) (by rw [hg]; rfl) hm hso hsz hk hbr
          exact ⟨μ, .slu hm htop (by omega) hcm, g1, g2⟩
        · cases hS
      · cases hS
    · cases hS
  · cases hS
theorem del_sum : SumR Tryz.prog 225 sDel := by
  intro us H v H' hS μ args w ha hH
  unfold sDel at hS
  split at hS
  · rename_i b n i j
    split at hS
    · rename_i hij
      obtain ⟨i, rfl⟩ : ∃ q : Nat, i = q := ⟨i.toNat, by omega⟩
      obtain ⟨j, rfl⟩ : ∃ q : Nat, j = q := ⟨j.toNat, by omega⟩
      rw [Int.toNat_natCast, Int.toNat_natCast] at hS
      have hpos : 0 < n := by
        unfold delB at hS
        split at hS
        · rename_i h; exact h.1
        · cases hS
      obtain ⟨bi, cap, hargs, hm, h2, h3, h4⟩ : ∃ bi cap, args = #[.slice (some ⟨bi.c, bi.base + 0, none⟩) n cap, .int .i64 i, .int .i64 j] ∧ μ b = some bi ∧ 0 + cap * 1 ≤ bi.top ∧ n ≤ cap ∧ cap ≤ maxLen := by
        generalize hl : args.toList = l at ha
        cases ha with
        | cons q1 q2 =>
          cases q2 with
          | cons q3 q4 =>
            cases q4 with
            | cons q5 q6 =>
              cases q6
              rw [q3.int_inv, q5.int_inv] at hl
              cases q1 with
              | slu h1 h2 h3 h4 => exact ⟨_, _, Array.ext' hl, h1, h2, h3, h4⟩
              | sluz h1 => omega
      subst hargs
      exact delB_sum hS hm h3 h4 h2 hH
    · cases hS
  · cases hS
end Go.PI
