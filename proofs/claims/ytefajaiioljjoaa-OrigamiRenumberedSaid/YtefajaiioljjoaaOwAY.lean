/- Own work of the verifier: RnSp. -/
import Derived.Test.YtefajaiioljjoaaOwAW
import Derived.Test.YtefajaiioljjoaaOwAX
import Derived.Test.YtefajaiioljjoaaOwAK
import Derived.Test.YtefajaiioljjoaaOwAT
import Derived.Shelf.Slices.In.SortNone
set_option linter.all false
set_option exponentiation.threshold 3000
set_option linter.deprecated false
/- slices.Sort AS A SUMMARY: the cells of a slice of integers are put in order. -/
open Go.Proofs
namespace Go.PI
open Go.RowKit Go.Sort
set_option maxRecDepth 100000
theorem callsIn_wd {P : Program} {f : FuncId} {args : Array Value} {w : World} {R : Ending → World → Prop} (h : Calls P f args w R) {F : Fence} {n : Nat} (hF : Wd F) : CallsIn F n P f args w R := by
  refine ⟨hF.1 f, fun cs _ => ?_⟩
  obtain ⟨e, w', fr, r, s, x⟩ := h cs
  have hm : ∀ m, Machine.fenced P F m := fun m g _ => ⟨fun ha => (by rw [hF.2.2] at ha; cases ha), .inl (hF.1 _), fun _ _ => hF.1 _, fun d hd => (by rw [hF.2.1] at hd; cases hd)⟩
  refine ⟨e, w', fr, r, ?_, x⟩
  cases e with
  | returned v => exact (StepsIn.of_steps s).mono fun m _ => hm m
  | panicked c => exact (StepsIn.of_steps s).mono fun m _ => hm m
  | outgrown => exact s
theorem HR.grow {μ : M} {H : Heap} {w w' : World} (hH : HR μ H w) (ho : SameOut w w') (hs : w.heap.size ≤ w'.heap.size) (hk : ∀ k, k < w.heap.size → w'.heap[k]? = w.heap[k]?) : HR μ H w' ∧ Fr μ H w μ H w' := by
  refine ⟨⟨hH.lim, hH.dom, fun A a hl hm => ?_, hH.inj⟩, ⟨M.le.refl _, fun _ _ => rfl, Nat.le_refl _, ho.os, ho.tape, ho.output, hs, fun k hk' hno => ⟨hk k hk', hno⟩, fun A hl ho => ⟨Heap.lt_of_get (fun e => by rw [e] at hl; cases hl), rfl⟩⟩⟩
  obtain ⟨h1, h2⟩ := hH.blk A a hl hm
  exact ⟨by omega, h2.mono (M.le.refl _) (hk _ h1)⟩
def srt (xs : List Int) : List Int := xs.mergeSort fun x y => decide (x ≤ y)
def intsOf : List AV → Option (List Int)
  | [] => some []
  | .int .i64 n :: r => match intsOf r with
    | some xs => some (n :: xs)
    | none => none
  | _ => none
theorem intsOf_ints : ∀ xs : List Int, intsOf (ints xs) = some xs
  | [] => rfl
  | x :: xs => by
    show (match intsOf (ints xs) with | some ys => some (x :: ys) | none => none) = _
    rw [intsOf_ints xs]
theorem intsOf_eq : ∀ {us : List AV} {xs : List Int}, intsOf us = some xs → us = ints xs
  | [], xs, h => by cases h; rfl
  | a :: us, xs, h => by
    unfold intsOf at h
    split at h
    · rename_i h0; cases h0
    · rename_i n r h0
      cases h0
      split at h
      · rename_i ys hy
        cases h
        rw [intsOf_eq hy]
        rfl
      · cases h
    · cases h
def srtB (b n : Nat) (H : Heap) : Option (AV × Heap) :=
  if 0 < n ∧ n < 1000000000 then
    match H.get b with
    | .cells true 3 cs => if n ≤ cs.length then (match intsOf (cs.take n) with
      | some xs => some (.tup [], H.set b (.cells true 3 (ints (srt xs) ++ cs.drop n)))
      | none => none) else none
    | _ => none
  else none
def sSort (us : List AV) (H : Heap) : Option (AV × Heap) :=
  match us with
  | [.nils] => some (.tup [], H)
  | [.slu b 0 n 1] => srtB b n H
  | [.sl b 0 n c] => if n ≤ c then srtB b n H else none
  | _ => none
theorem srtB_sum {μ : M} {H H' : Heap} {v : AV} {b n : Nat} (hS : srtB b n H = some (v, H')) {bi : BI} (hm : μ b = some bi) {cap : Nat} {w : World} (hH : HR μ H w) :
    CallR Try.prog μ H w 105 #[.slice (some ⟨bi.c, bi.base + 0, none⟩) n cap] v H' := by
  unfold srtB at hS
  split at hS
  · rename_i hn
    split at hS
    · rename_i cs hg
      split at hS
      · rename_i hcs
        split at hS
        · rename_i xs hx
          cases hS
          have hi := intsOf_eq hx
          have hxl : xs.length = n := by
            have := congrArg List.length hi
            rw [List.length_take, ints_length] at this
            omega
          obtain ⟨hbc, carr, fz, q1, q2, q3, q4, q5, q6⟩ := hH.blk b bi (by rw [hg]; rfl) hm |>.imp_right (fun h => by rw [hg] at h; exact h)
          have hfz := q5 rfl
          subst hfz
          have hcell : ∀ j, j < n → carr[bi.base + j]? = some (.int .i64 (xs.getD j 0)) := fun j hj => by
            have h1 : cs[j]? = some (.int .i64 (xs.getD j 0)) := by
              have : (cs.take n)[j]? = (ints xs)[j]? := by rw [hi]
              rw [List.getElem?_take, if_pos hj] at this
              rw [this, ints, List.getElem?_map, List.getD_eq_getElem?_getD, List.getElem?_eq_getElem (by omega)]
              rfl
            obtain ⟨u, h2, h3⟩ := q4.get h1
            cases h3
            rw [List.getElem?_take, if_pos (by omega), List.getElem?_drop, Array.getElem?_toList] at h2
            exact h2
          have hHold : Holds (Value.int .i64) w bi.c (bi.base + 0) xs.toArray := fun j hj => by
            have hj' : j < n := by simpa [hxl] using hj
            refine ⟨?_, by simp [World.frozen?, q1]⟩
            simp only [World.cell?, q1, Option.isSome_none, Bool.false_eq_true, if_false, Nat.add_zero]
            rw [hcell j hj']
            simp [List.getD_eq_getElem?_getD, List.getElem?_eq_getElem (show j < xs.length by omega), show j < xs.length by omega]
          obtain ⟨fn', f1, f2, f3, f4, f5⟩ := ctx_ok.fn 105 c105 (by kernel_rfl)
          have f5' : ¬ fn'.name = "runtime.NumGoroutine" := by simpa using f5
          have hgv := Try.sort_gives bi.c (bi.base + 0) cap xs w hHold hbc (by omega)
          rw [hxl] at hgv
          refine .inr ⟨by simp [callFunc, f1, f5', f4], fun F m hF => (callsIn_wd hgv hF).mono ?_⟩
          rintro e w' ⟨rfl, k, os, rfl⟩
          refine ⟨_, rfl, ?_⟩
          have hyl : (srt xs).length = n := by unfold srt; rw [List.length_mergeSort, hxl]
          have hp : (putRow (Value.int .i64) (Sort.ahead w k) bi.c (bi.base + 0) (srt xs).toArray).heap[bi.c]? = some (.cells (putCells (Value.int .i64) (bi.base + 0) (srt xs).toArray carr) 3 (0, 0)) := by
            simp [putRow, mapBlock, Sort.ahead, Array.getElem?_modify, q1, onCells]
          have hk : ∀ j, j ≠ bi.c → (putRow (Value.int .i64) (Sort.ahead w k) bi.c (bi.base + 0) (srt xs).toArray).heap[j]? = w.heap[j]? := fun j hj => by
            simp [putRow, mapBlock, Sort.ahead, Array.getElem?_modify, Ne.symm hj]
          have hsz : (putRow (Value.int .i64) (Sort.ahead w k) bi.c (bi.base + 0) (srt xs).toArray).heap.size = w.heap.size := by
            simp [putRow, mapBlock, Sort.ahead]
          have hso : SameOut w (putRow (Value.int .i64) (Sort.ahead w k) bi.c (bi.base + 0) (srt xs).toArray) := ⟨rfl, rfl, rfl⟩
          have hbr : BlkR μ (putRow (Value.int .i64) (Sort.ahead w k) bi.c (bi.base + 0) (srt xs).toArray) bi (.cells true 3 (ints (srt xs) ++ cs.drop n)) := by
            refine ⟨_, _, hp, by simp [putCells, q2], by rw [List.length_append, ints_length, hyl, List.length_drop]; omega, ?_, fun _ => rfl, q6⟩
            refine All2.of_get ?_ fun i a v ha hv => ?_
            · have hps : (putCells (Value.int .i64) (bi.base + 0) (srt xs).toArray carr).toList.length = carr.size := by
                rw [Array.length_toList]
                simp [putCells]
              rw [List.length_append, ints_length, hyl, List.length_drop, List.length_take, List.length_drop, hps]
              omega
            · have hil := (List.getElem?_eq_some_iff.1 ha).1
              rw [List.length_append, ints_length, hyl, List.length_drop] at hil
              rw [List.getElem?_take, if_pos (by rw [List.length_append, ints_length, hyl, List.length_drop]; omega), List.getElem?_drop, Array.getElem?_toList] at hv
              simp only [putCells, Array.getElem?_mapIdx] at hv
              have hci : ∃ u, carr[bi.base + i]? = some u := ⟨_, Array.getElem?_eq_getElem (by omega)⟩
              obtain ⟨u, hu⟩ := hci
              rw [hu] at hv
              simp only [Option.map_some, Option.some.injEq] at hv
              by_cases hin : i < n
              · rw [if_pos ⟨by omega, by simp [hyl]; omega⟩] at hv
                rw [List.getElem?_append_left (by rw [ints_length]; omega), ints, List.getElem?_map, List.getElem?_eq_getElem (by omega)] at ha
                cases ha
                subst hv
                have e : bi.base + i - (bi.base + 0) = i := by omega
                rw [e]
                have : (srt xs).toArray[i]! = (srt xs)[i]'(by omega) := by
                  rw [getElem!_pos _ i (by simp; omega)]
                  simp
                rw [this]
                exact .int _ _
              · rw [if_neg (fun h => hin (by have := h.2; simp [hyl] at this; omega))] at hv
                subst hv
                rw [List.getElem?_append_right (by rw [ints_length]; omega), ints_length, hyl, List.getElem?_drop, show n + (i - n) = i by omega] at ha
                obtain ⟨u', h2, h3⟩ := q4.get ha
                rw [List.getElem?_take, if_pos (by omega), List.getElem?_drop, Array.getElem?_toList, hu] at h2
                cases h2
                exact h3
          obtain ⟨g1, g2⟩ := hH.set (b := b) (by rw [hg]; rfl) hm hso hsz hk hbr
          obtain ⟨g3, g4⟩ := g1.grow (w' := grow (putRow (Value.int .i64) (Sort.ahead w k) bi.c (bi.base + 0) (srt xs).toArray) os) ⟨rfl, rfl, rfl⟩ (by simp [grow]) (fun j hj => by
            show (_ ++ os)[j]? = _
            rw [Array.getElem?_append_left hj])
          exact ⟨μ, .tup .nil, g3, g2.trans g4⟩
        · cases hS
      · cases hS
    · cases hS
  · cases hS
theorem sort_none (w : World) : Calls Try.prog 105 #[.slice none 0 0] w fun e w' => e = .returned (.tuple #[]) ∧ w' = w := by
  have h := Any.slices_Sort_int_none (ρ := Try.laysSort_ren) Try.laysSort none 0 w
  rw [Try.fSort] at h
  exact h
theorem sort_sum : SumR Try.prog 105 sSort := by
  intro us H v H' hS μ args w ha hH
  unfold sSort at hS
  split at hS
  · cases hS
    have hargs : args = #[.slice none 0 0] := by
      generalize hl : args.toList = l at ha
      cases ha with
      | cons q1 q2 =>
        cases q2
        cases q1 with
        | nils => exact Array.ext' hl
    subst hargs
    obtain ⟨fn', f1, f2, f3, f4, f5⟩ := ctx_ok.fn 105 c105 (by kernel_rfl)
    have f5' : ¬ fn'.name = "runtime.NumGoroutine" := by simpa using f5
    refine .inr ⟨by simp [callFunc, f1, f5', f4], fun F m hF => (callsIn_wd (sort_none w) hF).mono ?_⟩
    rintro e w' ⟨rfl, rfl⟩
    exact ⟨_, rfl, μ, .tup .nil, hH, Fr.refl _ _ _⟩
  · rename_i b n
    have hpos : 0 < n := by
      unfold srtB at hS
      split at hS
      · rename_i h; exact h.1
      · cases hS
    obtain ⟨bi, cap, hargs, hm⟩ : ∃ bi cap, args = #[.slice (some ⟨bi.c, bi.base + 0, none⟩) n cap] ∧ μ b = some bi := by
      generalize hl : args.toList = l at ha
      cases ha with
      | cons q1 q2 =>
        cases q2
        cases q1 with
        | slu h1 h2 h3 => exact ⟨_, _, Array.ext' hl, h1⟩
        | sluz h1 => omega
    subst hargs
    exact srtB_sum hS hm hH
  · rename_i b n c
    split at hS
    · obtain ⟨bi, hargs, hm⟩ : ∃ bi, args = #[.slice (some ⟨bi.c, bi.base + 0, none⟩) n c] ∧ μ b = some bi := by
        generalize hl : args.toList = l at ha
        cases ha with
        | cons q1 q2 =>
          cases q2
          cases q1 with
          | sl h1 => exact ⟨_, Array.ext' hl, h1⟩
      subst hargs
      exact srtB_sum hS hm hH
    · cases hS
  · cases hS
end Go.PI
