/- Own work of the verifier: CoArg CoSo CoSp CoSq CpArg CoU CoV. -/
import Derived.Test.YtdflpkkgjppmgaaGreatChBC
import Derived.Test.YtdflpkkgjppmgaaGreatChBD
import Derived.Test.YtdflpkkgjppmgaaGreatChAW
import Derived.Lib.SmallJoins
import Derived.ChangeSlices
import Derived.Test.YtdflpkkgjppmgaaGreatProg
import Derived.Shelf.Sort.Plain
import Derived.KernelRfl
import Derived.Shelf.Slices.In.SortNone
set_option linter.all false
set_option exponentiation.threshold 3000
set_option linter.deprecated false
/- THE ARGUMENTS OF THE LAWS. -/
open Go.Proofs
namespace Go.PI
open Go.ChangeShapes Go.WideShapes Go.ChangeAt Go.RowKit
open IM
set_option maxRecDepth 100000
set_option maxHeartbeats 4000000
theorem imp_sliceF {W : World} {μ : M} {H : Heap} (h : Imp W μ H) (hn : H.n < lim) {A : Option Addr} {L C : Nat} {Z : List Int} (hLC : L ≤ C) (hZ : L ≤ Z.length) (h0 : A = none → C = 0)
    (hc : ∀ a, A = some a → ∀ c, c < L → W.cell? (a.add c) = some (.int .i64 (Z.getD c 0))) :
    ∃ μ' H' v', Imp W μ' H' ∧ M.le μ μ' ∧ (∀ B, B < H.n → H'.get B = H.get B) ∧ H.n ≤ H'.n ∧ H'.n ≤ H.n + 1 ∧ VR μ' v' (.slice A L C) ∧ Sl H' v' (Z.take L) := by
  have hlen : (Z.take L).length = L := by simp; omega
  cases A with
  | none =>
    have hC := h0 rfl
    obtain rfl : C = 0 := hC
    obtain rfl : L = 0 := by omega
    exact ⟨μ, H, .nils, h, M.le.refl _, fun _ _ => rfl, Nat.le_refl _, Nat.le_succ _, .nils, rfl⟩
  | some a =>
    by_cases hL : L = 0
    · subst hL
      exact ⟨μ, H, .sle, h, M.le.refl _, fun _ _ => rfl, Nat.le_refl _, Nat.le_succ _, .sle _ _, rfl⟩
    · have ha := cell_zero (hc a rfl 0 (by omega))
      have hc' : ∀ c, c < L → W.cell? (Addr.add ⟨a.block, a.off, none⟩ c) = some (.int .i64 (Z.getD c 0)) := fun c hcl => by rw [← ha]; exact hc a rfl c hcl
      obtain ⟨carr, ty, fz, hb, -⟩ := cell_row (hc' 0 (by omega))
      have hlt : a.block < W.heap.size := by
        rcases Nat.lt_or_ge a.block W.heap.size with h1 | h1
        · exact h1
        · rw [Array.getElem?_eq_none h1] at hb; cases hb
      have hp := fun b => Heap.get_push (H := H) (b := b) hn
      · have hcells : ∀ c, c < L → carr[a.off + c]? = some (.int .i64 (Z.getD c 0)) := fun c hcl => by
          obtain ⟨carr2, ty2, fz2, hb2, hv⟩ := cell_row (hc' c hcl)
          rw [hb] at hb2
          cases hb2
          exact hv
        have hsz : a.off + L ≤ carr.size := by
          have := hcells (L - 1) (by omega)
          have := (Array.getElem?_eq_some_iff.1 this).1
          omega
        obtain ⟨cs, hcs⟩ : ∃ cs, cs = (carr.toList.take a.off).map AV.raw ++ ints (Z.take L) := ⟨_, rfl⟩
        have hcl : cs.length = a.off + L := by rw [hcs, List.length_append, List.length_map, List.length_take, ints_length, hlen, Array.length_toList]; omega
        have hvs : ∀ ν : M, VRs ν cs (carr.toList.take cs.length) := fun ν => by
          rw [hcl, hcs]
          have e : carr.toList.take (a.off + L) = carr.toList.take a.off ++ (carr.toList.drop a.off).take L := by rw [List.take_add]
          rw [e]
          refine All2.append (anys ν _) ?_
          have e2 : (carr.toList.drop a.off).take L = (Z.take L).map (Value.int .i64) := by
            apply List.ext_getElem?
            intro i
            by_cases hi : i < L
            · rw [List.getElem?_take, if_pos hi, List.getElem?_drop, Array.getElem?_toList, hcells i hi, List.getElem?_map, List.getElem?_take, if_pos hi]
              rw [List.getD_eq_getElem?_getD, List.getElem?_eq_getElem (by omega)]
              simp
            · rw [List.getElem?_take, if_neg hi, List.getElem?_map, List.getElem?_take, if_neg hi]; rfl
          rw [e2]
          generalize Z.take L = xs
          induction xs with
          | nil => exact .nil
          | cons x xs ih => exact .cons (.int _ _) ih
        obtain ⟨h1, h2⟩ := h.push hn (bi := ⟨a.block, carr.size, 0⟩) (b := .cells false ty cs) rfl (fun _ => ⟨hlt, blk0 rfl ⟨carr, fz, hb, rfl, by omega, hvs _, fun e => by cases e⟩⟩)
        refine ⟨_, _, .sl H.n a.off L C, h1, h2, fun B hB => by rw [hp, if_neg (by omega)], Nat.le_succ _, Nat.le_refl _, ?_, ⟨hlen.symm, false, ty, cs, by rw [hp, if_pos rfl], by omega, ?_⟩⟩
        · rw [ha]
          exact VR.sl0 (M.set_self _ _ _)
        · rw [hcs, List.drop_append, List.drop_of_length_le (by simp; omega), List.length_map, List.length_take, Array.length_toList, Nat.min_eq_left (by omega), Nat.sub_self, List.drop_zero, List.nil_append, List.take_of_length_le (by rw [ints_length]; omega)]
def CpX (v : AV) : Prop :=
  match v with
  | .sl _ _ l c => l ≤ c
  | _ => True
theorem nc3' : Tryz.prog.cellsOf 3 = 1 := by kernel_rfl
theorem cp_ofX {μ : M} {v : AV} {A : Option Addr} {L C : Nat} (h : VR μ v (.slice A L C)) (hLC : L ≤ C) : CpX v := by
  cases h <;> first | exact hLC | trivial
theorem rel_of_sl {H : Heap} {x : AV} {xs : List Int} (h : Sl H x xs) (hc : CpX x) : RelC H (fun _ => False) (pIs xs) x := by
  have hr : ∀ {cs : List AV} {o : Nat}, (cs.drop o).take xs.length = ints xs → All2 (RelC H fun _ => False) (xs.map pn) ((cs.drop o).take (xs.map pn).length) := fun h => by
    rw [List.length_map, h]
    exact rel_ints xs
  unfold Sl at h
  split at h
  · subst h; exact .lnil
  · subst h; exact .lsle
  · obtain ⟨rfl, rw, ty, cs, h1, h2, h3⟩ := h
    exact .sl (fun h => h) h1 (by rw [List.length_map]; exact h2) hc (hr h3)
  · obtain ⟨rfl, rfl, rw, ty, cs, h1, h2, h3⟩ := h
    exact .slu (fun h => h) h1 (by rw [List.length_map]; exact h2) ⟨by simp, fun _ => rfl⟩ (hr h3)
  · exact h.elim
theorem imp_intsF {H : Type} {enc : TypeId × Value → H} {W : World} {μ : M} {Hp : Heap} (h : Imp W μ Hp) (hn : Hp.n + 2 < lim) {fuel : Nat} {v : Value} {y : DataW H × List MemPlace}
    (h1 : DataW.trod enc Tryz.prog W 0 (fun _ => true) true fuel 22 [v] = some y) :
    ∃ (μ' : M) (H' : Heap) (b : AV) (xs : List Int), Imp W μ' H' ∧ M.le μ μ' ∧ (∀ B, B < Hp.n → H'.get B = Hp.get B) ∧ Hp.n ≤ H'.n ∧ H'.n ≤ Hp.n + 1 ∧ VR μ' b v ∧ Sl H' b xs ∧ CpX b := by
  have hm : maxLen = 9223372036854775807 := rfl
  rcases open_ints Tryz.underlying22 Tryz.underlying3 nc3' h1 with ⟨hcs, -⟩ | ⟨a, len, cap, zs, hcs, -, hl, hc, hz, -, hcell, hwf⟩
  · obtain rfl : v = .slice none 0 0 := by simpa using hcs
    exact ⟨μ, Hp, .nils, [], h, M.le.refl _, fun _ _ => rfl, Nat.le_refl _, by omega, .nils, rfl, trivial⟩
  · obtain rfl : v = .slice (some a) len cap := by simpa using hcs
    simp only [if_true] at hz
    obtain ⟨μ', H', v', g1, g2, g3, g4, g5, g6, g7⟩ := imp_sliceF (A := some a) (L := len) (C := cap) (Z := zs) h (by omega) hl (by omega) (fun e => by cases e) (fun a' ha' c hcl => by
      cases ha'
      exact hcell c (by omega))
    exact ⟨μ', H', v', _, g1, g2, g3, g4, g5, g6, g7, cp_ofX g6 hl⟩
end Go.PI
/- slices.Sort AS THE LIBRARY's CONTRACT HAS IT, at this program. -/
namespace Go.Proofs
open Go.Shelf Go.RowKit Go.Sort
def Tryz.laysSort_ren : Go.Shelf.Ren := ⟨fun | 189 => 112 | 125 => 149 | 257 => 148 | 128 => 179 | 129 => 139 | 294 => 170 | 295 => 171 | 296 => 172 | 297 => 173 | 298 => 174 | 299 => 175 | 216 => 176 | 300 => 177 | 301 => 178 | 328 => 196 | 329 => 197 | 330 => 198 | 331 => 199 | 332 => 200 | 215 => 201 | 343 => 209 | n => n, fun | 28 => 22 | 3 => 3 | 46 => 122 | 0 => 0 | 51 => 140 | 53 => 70 | 4 => 4 | 183 => 133 | 182 => 132 | 131 => 115 | 5 => 5 | 9 => 9 | 218 => 149 | 222 => 153 | 228 => 161 | 229 => 55 | n => n, fun | n => n⟩
theorem Tryz.laysSort : Go.Proofs.Lays.n189 Tryz.prog Tryz.laysSort_ren where
  mixed := by kernel_rfl
  f125 := Tryz.func149.trans (congrArg some (by kernel_rfl))
  f128 := Tryz.func179.trans (congrArg some (by kernel_rfl))
  f129 := Tryz.func139.trans (congrArg some (by kernel_rfl))
  f189 := Tryz.func112.trans (congrArg some (by kernel_rfl))
  f215 := Tryz.func201.trans (congrArg some (by kernel_rfl))
  f216 := Tryz.func176.trans (congrArg some (by kernel_rfl))
  f257 := Tryz.func148.trans (congrArg some (by kernel_rfl))
  f294 := Tryz.func170.trans (congrArg some (by kernel_rfl))
  f295 := Tryz.func171.trans (congrArg some (by kernel_rfl))
  f296 := Tryz.func172.trans (congrArg some (by kernel_rfl))
  f297 := Tryz.func173.trans (congrArg some (by kernel_rfl))
  f298 := Tryz.func174.trans (congrArg some (by kernel_rfl))
  f299 := Tryz.func175.trans (congrArg some (by kernel_rfl))
  f300 := Tryz.func177.trans (congrArg some (by kernel_rfl))
  f301 := Tryz.func178.trans (congrArg some (by kernel_rfl))
  f328 := Tryz.func196.trans (congrArg some (by kernel_rfl))
  f329 := Tryz.func197.trans (congrArg some (by kernel_rfl))
  f330 := Tryz.func198.trans (congrArg some (by kernel_rfl))
  f331 := Tryz.func199.trans (congrArg some (by kernel_rfl))
  f332 := Tryz.func200.trans (congrArg some (by kernel_rfl))
  f343 := Tryz.func209.trans (congrArg some (by kernel_rfl))
  t0 := Tryz.underlying0
  a0 := Tryz.isAgg0
  z0 := Tryz.sizeOf0
  v0 := Tryz.zeroValue0
  t3 := Tryz.underlying3
  a3 := Tryz.isAgg3
  z3 := Tryz.sizeOf3
  v3 := Tryz.zeroValue3
  t4 := Tryz.underlying4
  a4 := Tryz.isAgg4
  z4 := Tryz.sizeOf4
  v4 := Tryz.zeroValue4
  t5 := Tryz.underlying5
  a5 := Tryz.isAgg5
  z5 := Tryz.sizeOf5
  v5 := Tryz.zeroValue5
  t9 := Tryz.underlying9
  a9 := Tryz.isAgg9
  z9 := Tryz.sizeOf9
  v9 := Tryz.zeroValue9
  t28 := Tryz.underlying22
  a28 := Tryz.isAgg22
  z28 := Tryz.sizeOf22
  v28 := Tryz.zeroValue22
  t46 := Tryz.underlying122
  a46 := Tryz.isAgg122
  z46 := Tryz.sizeOf122
  v46 := Tryz.zeroValue122
  t51 := Tryz.underlying140
  a51 := Tryz.isAgg140
  z51 := Tryz.sizeOf140
  v51 := Tryz.zeroValue140
  t53 := Tryz.underlying70
  a53 := Tryz.isAgg70
  z53 := Tryz.sizeOf70
  v53 := Tryz.zeroValue70
  t131 := Tryz.underlying115
  a131 := Tryz.isAgg115
  z131 := Tryz.sizeOf115
  v131 := Tryz.zeroValue115
  t182 := Tryz.underlying132
  a182 := Tryz.isAgg132
  z182 := Tryz.sizeOf132
  v182 := Tryz.zeroValue132
  t183 := Tryz.underlying133
  a183 := Tryz.isAgg133
  z183 := Tryz.sizeOf133
  v183 := Tryz.zeroValue133
  t218 := Tryz.underlying149
  a218 := Tryz.isAgg149
  z218 := Tryz.sizeOf149
  v218 := Tryz.zeroValue149
  t222 := Tryz.underlying153
  a222 := Tryz.isAgg153
  z222 := Tryz.sizeOf153
  v222 := Tryz.zeroValue153
  t228 := Tryz.underlying161
  a228 := Tryz.isAgg161
  z228 := Tryz.sizeOf161
  v228 := Tryz.zeroValue161
  t229 := Tryz.underlying55
  a229 := Tryz.isAgg55
  z229 := Tryz.sizeOf55
  v229 := Tryz.zeroValue55
theorem Tryz.fSort : Tryz.laysSort_ren.f 189 = 112 := by kernel_rfl
theorem Tryz.sort_gives (blk off cap : Nat) (zs : List Int) (w : World) (hH : Holds (Value.int .i64) w blk off zs.toArray) (hblk : blk < w.heap.size) (hsz : zs.length < 4611686018427387904) :
    Calls Tryz.prog 112 #[.slice (some ⟨blk, off, none⟩) zs.length cap] w fun e w' =>
      e = .returned (.tuple #[]) ∧ ∃ n os, w' = grow (putRow (Value.int .i64) (Sort.ahead w n) blk off (zs.mergeSort fun x y => decide (x ≤ y)).toArray) os := by
  have h := Any.slices_Sort_int (ρ := Tryz.laysSort_ren) Tryz.laysSort blk off cap zs w hH hblk hsz
  rw [Tryz.fSort] at h
  exact h
end Go.Proofs
/- slices.Sort AS A SUMMARY: the cells of a slice of integers are put in order. -/
open Go.Proofs
namespace Go.PI
open Go.RowKit Go.Sort
set_option maxRecDepth 100000
theorem callsIn_wd {P : Program} {f : FuncId} {args : Array Value} {w : World} {R : Ending → World → Prop} (h : Calls P f args w R) {F : Fence} {n : Nat} (hF : Wd F) : CallsIn F n P f args w R := by
  refine ⟨hF.1 f, fun cs _ => ?_⟩
  obtain ⟨e, w', fr, r, s, x⟩ := h cs
  have hm : ∀ m, Machine.fenced P F m := fun m g _ => ⟨fun ha => (by rw [hF.2.2] at ha; cases ha), .inl (hF.1 _), fun _ _ => hF.1 _, fun d hd => (by rw [hF.2.1] at hd; cases hd)⟩
  refine ⟨e, w', fr, r, ?_, x⟩
  cases e with
  | returned v => exact (StepsIn.of_steps s).mono fun m _ => hm m
  | panicked c => exact (StepsIn.of_steps s).mono fun m _ => hm m
  | outgrown => exact s
theorem HR.grow {μ : M} {H : Heap} {w w' : World} (hH : HR μ H w) (ho : SameOut w w') (hs : w.heap.size ≤ w'.heap.size) (hk : ∀ k, k < w.heap.size → w'.heap[k]? = w.heap[k]?) : HR μ H w' ∧ Fr μ H w μ H w' := by
  refine ⟨⟨hH.lim, hH.dom, fun A a hl hm => ?_, hH.inj⟩, ⟨M.le.refl _, fun _ _ => rfl, Nat.le_refl _, ho.os, ho.tape, ho.output, hs, fun k hk' hno => ⟨hk k hk', hno⟩, fun A hl ho => ⟨Heap.lt_of_get (fun e => by rw [e] at hl; cases hl), rfl⟩⟩⟩
  obtain ⟨h1, h2⟩ := hH.blk A a hl hm
  exact ⟨by omega, h2.mono (M.le.refl _) (hk _ h1)⟩
def srt (xs : List Int) : List Int := xs.mergeSort fun x y => decide (x ≤ y)
def intsOf : List AV → Option (List Int)
  | [] => some []
  | .int .i64 n :: r => match intsOf r with
    | some xs => some (n :: xs)
    | none => none
  | _ => none
theorem intsOf_eq : ∀ {us : List AV} {xs : List Int}, intsOf us = some xs → us = ints xs
  | [], xs, h => by cases h; rfl
  | a :: us, xs, h => by
    unfold intsOf at h
    split at h
    · rename_i h0; cases h0
    · rename_i n r h0
      cases h0
      split at h
      · rename_i ys hy
        cases h
        rw [intsOf_eq hy]
        rfl
      · cases h
    · cases h
def srtB (b n : Nat) (H : Heap) : Option (AV × Heap) :=
  if 0 < n ∧ n < 1000000000 then
    match H.get b with
    | .cells true 3 cs => if n ≤ cs.length then (match intsOf (cs.take n) with
      | some xs => some (.tup [], H.set b (.cells true 3 (ints (srt xs) ++ cs.drop n)))
      | none => none) else none
    | _ => none
  else none
def sSort (us : List AV) (H : Heap) : Option (AV × Heap) :=
  match us with
  | [.nils] => some (.tup [], H)
  | [.slu b 0 n 1] => srtB b n H
  | [.sl b 0 n c] => if n ≤ c then srtB b n H else none
  | _ => none
theorem srtB_sum {μ : M} {H H' : Heap} {v : AV} {b n : Nat} (hS : srtB b n H = some (v, H')) {bi : BI} (hm : μ b = some bi) {cap : Nat} {w : World} (hH : HR μ H w) :
    CallR Tryz.prog μ H w 112 #[.slice (some ⟨bi.c, bi.base + 0, none⟩) n cap] v H' := by
  unfold srtB at hS
  split at hS
  · rename_i hn
    split at hS
    · rename_i cs hg
      split at hS
      · rename_i hcs
        split at hS
        · rename_i xs hx
          cases hS
          have hi := intsOf_eq hx
          have hxl : xs.length = n := by
            have := congrArg List.length hi
            rw [List.length_take, ints_length] at this
            omega
          obtain ⟨hbc, carr, fz, q1, q2, q3, q4, q5, q6⟩ := hH.blk b bi (by rw [hg]; rfl) hm |>.imp_right (fun h => by rw [hg] at h; exact h)
          have hfz := q5 rfl
          subst hfz
          have hcell : ∀ j, j < n → carr[bi.base + j]? = some (.int .i64 (xs.getD j 0)) := fun j hj => by
            have h1 : cs[j]? = some (.int .i64 (xs.getD j 0)) := by
              have : (cs.take n)[j]? = (ints xs)[j]? := by rw [hi]
              rw [List.getElem?_take, if_pos hj] at this
              rw [this, ints, List.getElem?_map, List.getD_eq_getElem?_getD, List.getElem?_eq_getElem (by omega)]
              rfl
            obtain ⟨u, h2, h3⟩ := q4.get h1
            cases h3
            rw [List.getElem?_take, if_pos (by omega), List.getElem?_drop, Array.getElem?_toList] at h2
            exact h2
          have hHold : Holds (Value.int .i64) w bi.c (bi.base + 0) xs.toArray := fun j hj => by
            have hj' : j < n := by simpa [hxl] using hj
            refine ⟨?_, by simp [World.frozen?, q1]⟩
            simp only [World.cell?, q1, Option.isSome_none, Bool.false_eq_true, if_false, Nat.add_zero]
            rw [hcell j hj']
            simp [List.getD_eq_getElem?_getD, List.getElem?_eq_getElem (show j < xs.length by omega), show j < xs.length by omega]
          obtain ⟨fn', f1, f2, f3, f4, f5⟩ := ctx_ok.fn 112 c112 (by kernel_rfl)
          have f5' : ¬ fn'.name = "runtime.NumGoroutine" := by simpa using f5
          have hgv := Tryz.sort_gives bi.c (bi.base + 0) cap xs w hHold hbc (by omega)
          rw [hxl] at hgv
          refine .inr ⟨by simp [callFunc, f1, f5', f4], fun F m hF => (callsIn_wd hgv hF).mono ?_⟩
          rintro e w' ⟨rfl, k, os, rfl⟩
          refine ⟨_, rfl, ?_⟩
          have hyl : (srt xs).length = n := by unfold srt; rw [List.length_mergeSort, hxl]
          have hp : (putRow (Value.int .i64) (Sort.ahead w k) bi.c (bi.base + 0) (srt xs).toArray).heap[bi.c]? = some (.cells (putCells (Value.int .i64) (bi.base + 0) (srt xs).toArray carr) 3 (0, 0)) := by
            simp [putRow, mapBlock, Sort.ahead, Array.getElem?_modify, q1, onCells]
          have hk : ∀ j, j ≠ bi.c → (putRow (Value.int .i64) (Sort.ahead w k) bi.c (bi.base + 0) (srt xs).toArray).heap[j]? = w.heap[j]? := fun j hj => by
            simp [putRow, mapBlock, Sort.ahead, Array.getElem?_modify, Ne.symm hj]
          have hsz : (putRow (Value.int .i64) (Sort.ahead w k) bi.c (bi.base + 0) (srt xs).toArray).heap.size = w.heap.size := by
            simp [putRow, mapBlock, Sort.ahead]
          have hso : SameOut w (putRow (Value.int .i64) (Sort.ahead w k) bi.c (bi.base + 0) (srt xs).toArray) := ⟨rfl, rfl, rfl⟩
          have hbr : BlkR μ (putRow (Value.int .i64) (Sort.ahead w k) bi.c (bi.base + 0) (srt xs).toArray) bi (.cells true 3 (ints (srt xs) ++ cs.drop n)) := by
            refine ⟨_, _, hp, by simp [putCells, q2], by rw [List.length_append, ints_length, hyl, List.length_drop]; omega, ?_, fun _ => rfl, q6⟩
            refine All2.of_get ?_ fun i a v ha hv => ?_
            · have hps : (putCells (Value.int .i64) (bi.base + 0) (srt xs).toArray carr).toList.length = carr.size := by
                rw [Array.length_toList]
                simp [putCells]
              rw [List.length_append, ints_length, hyl, List.length_drop, List.length_take, List.length_drop, hps]
              omega
            · have hil := (List.getElem?_eq_some_iff.1 ha).1
              rw [List.length_append, ints_length, hyl, List.length_drop] at hil
              rw [List.getElem?_take, if_pos (by rw [List.length_append, ints_length, hyl, List.length_drop]; omega), List.getElem?_drop, Array.getElem?_toList] at hv
              simp only [putCells, Array.getElem?_mapIdx] at hv
              have hci : ∃ u, carr[bi.base + i]? = some u := ⟨_, Array.getElem?_eq_getElem (by omega)⟩
              obtain ⟨u, hu⟩ := hci
              rw [hu] at hv
              simp only [Option.map_some, Option.some.injEq] at hv
              by_cases hin : i < n
              · rw [if_pos ⟨by omega, by simp [hyl]; omega⟩] at hv
                rw [List.getElem?_append_left (by rw [ints_length]; omega), ints, List.getElem?_map, List.getElem?_eq_getElem (by omega)] at ha
                cases ha
                subst hv
                have e : bi.base + i - (bi.base + 0) = i := by omega
                rw [e]
                have : (srt xs).toArray[i]! = (srt xs)[i]'(by omega) := by
                  rw [getElem!_pos _ i (by simp; omega)]
                  simp
                rw [this]
                exact .int _ _
              · rw [if_neg (fun h => hin (by have := h.2; simp [hyl] at this; omega))] at hv
                subst hv
                rw [List.getElem?_append_right (by rw [ints_length]; omega), ints_length, hyl, List.getElem?_drop, show n + (i - n) = i by omega] at ha
                obtain ⟨u', h2, h3⟩ := q4.get ha
                rw [List.getElem?_take, if_pos (by omega), List.getElem?_drop, Array.getElem?_toList, hu] at h2
                cases h2
                exact h3
          obtain ⟨g1, g2⟩ := hH.set (b := b) (by rw [hg]; rfl) hm hso hsz hk hbr
          obtain ⟨g3, g4⟩ := g1.grow (w' := grow (putRow (Value.int .i64) (Sort.ahead w k) bi.c (bi.base + 0) (srt xs).toArray) os) ⟨rfl, rfl, rfl⟩ (by simp [grow]) (fun j hj => by
            show (_ ++ os)[j]? = _
            rw [Array.getElem?_append_left hj])
          exact ⟨μ, .tup .nil, g3, g2.trans g4⟩
        · cases hS
      · cases hS
    · cases hS
  · cases hS
theorem sort_none (w : World) : Calls Tryz.prog 112 #[.slice none 0 0] w fun e w' => e = .returned (.tuple #[]) ∧ w' = w := by
  have h := Any.slices_Sort_int_none (ρ := Tryz.laysSort_ren) Tryz.laysSort none 0 w
  rw [Tryz.fSort] at h
  exact h
theorem sort_sum : SumR Tryz.prog 112 sSort := by
  intro us H v H' hS μ args w ha hH
  unfold sSort at hS
  split at hS
  · cases hS
    have hargs : args = #[.slice none 0 0] := by
      generalize hl : args.toList = l at ha
      cases ha with
      | cons q1 q2 =>
        cases q2
        cases q1 with
        | nils => exact Array.ext' hl
    subst hargs
    obtain ⟨fn', f1, f2, f3, f4, f5⟩ := ctx_ok.fn 112 c112 (by kernel_rfl)
    have f5' : ¬ fn'.name = "runtime.NumGoroutine" := by simpa using f5
    refine .inr ⟨by simp [callFunc, f1, f5', f4], fun F m hF => (callsIn_wd (sort_none w) hF).mono ?_⟩
    rintro e w' ⟨rfl, rfl⟩
    exact ⟨_, rfl, μ, .tup .nil, hH, Fr.refl _ _ _⟩
  · rename_i b n
    have hpos : 0 < n := by
      unfold srtB at hS
      split at hS
      · rename_i h; exact h.1
      · cases hS
    obtain ⟨bi, cap, hargs, hm⟩ : ∃ bi cap, args = #[.slice (some ⟨bi.c, bi.base + 0, none⟩) n cap] ∧ μ b = some bi := by
      generalize hl : args.toList = l at ha
      cases ha with
      | cons q1 q2 =>
        cases q2
        cases q1 with
        | slu h1 h2 h3 => exact ⟨_, _, Array.ext' hl, h1⟩
        | sluz h1 => omega
    subst hargs
    exact srtB_sum hS hm hH
  · rename_i b n c
    split at hS
    · obtain ⟨bi, hargs, hm⟩ : ∃ bi, args = #[.slice (some ⟨bi.c, bi.base + 0, none⟩) n c] ∧ μ b = some bi := by
        generalize hl : args.toList = l at ha
        cases ha with
        | cons q1 q2 =>
          cases q2
          cases q1 with
          | sl h1 => exact ⟨_, Array.ext' hl, h1⟩
      subst hargs
      exact srtB_sum hS hm hH
    · cases hS
  · cases hS
end Go.PI
/- THE TABLE THAT KNOWS THE CLOSED EXAMPLES AND slices.Sort; Sort with plain values. -/
open Go.Proofs
namespace Go.PI
open IM
set_option maxRecDepth 100000
def SSo : FuncId → Option (List AV → Heap → Option (AV × Heap)) := fun f => if f = 12 then some sTrue else if f = 112 then some sSort else none
noncomputable def ctxB : Ctx := ctx.plus SSo
theorem ctxB_fine : Ctx.Ok Tryz.prog ctxB := by
  obtain ⟨H, h⟩ := isTrue_some run12
  refine Ctx.plus_ok2 (C := ctx) ctx_ok (T := SSo) fun f s hf => ?_
  unfold SSo at hf
  split at hf
  · rename_i he
    subst he
    cases hf
    exact .inr (closed_true ctx_ok (quick_sim h))
  · split at hf
    · rename_i he
      subst he
      cases hf
      exact .inr sort_sum
    · cases hf
theorem oldB : OldO SSo := fun f hf => by
  unfold SSo
  rw [if_neg fun e => hf (.inl e), if_neg fun e => hf (.inr e)]
theorem hB12 : Ct (ctx.plus SSo) 12 [] 0 fun r => r = .bool true := by
  intro H W avs hw hr hn
  cases hr
  refine Cl.of_sum (v := .bool true) (H' := H) rfl ?_
  exact ⟨_, rfl, .bool _, KpH.refl _ _⟩
variable (S : FuncId → Option (List AV → Heap → Option (AV × Heap)))
end Go.PI
/- THE LAWS OVER THE TABLE THAT KNOWS slices.Sort. -/
open Go.Proofs
namespace Go.PI
open Go.ChangeShapes Go.WideShapes Go.ChangeAt Go.RowKit
open IM
set_option maxRecDepth 100000
set_option maxHeartbeats 4000000
theorem law_callsB {W : World} {μ : M} {H : Heap} {f : FuncId} {c : FI} (hf : ctxB.fn f = some c) (i : Imp W μ H) {args : Array Value} {avs : List AV} {ps : List PV} {d : Nat} (hv : VRs μ avs args.toList) (hr : All2 (RelC H fun _ => False) ps avs) (hd : H.n + d < lim)
    (hct : Ct ctxB f ps d fun r => r = .bool true) : Calls Tryz.prog f args W fun e w' => e = .returned (.bool true) ∧ Below W.heap.size W w' := by
  have law : Cl ctxB f avs H fun r _ => r = .bool true := by
    refine (hct H (fun _ => False) avs (fun b h => h.elim) hr hd).mono ?_
    rintro r H' ⟨q, rfl, hq, -⟩
    cases hq
    rfl
  obtain ⟨k, r, H', hc, rfl⟩ := law
  have hC := ctxB_fine
  rcases callF_sim hC (sound hC k) hc (args := args) hv i.hr with ⟨u, w', hrun, -⟩ | ⟨-, hcalls⟩
  · exfalso
    obtain ⟨fn', f1, f2, f3, f4, f5⟩ := hC.fn f _ hf
    have f5' : ¬ fn'.name = "runtime.NumGoroutine" := by simpa using f5
    simp [callFunc, f1, f5', f4] at hrun
  · have hw : Calls Tryz.prog f args W fun e w' => ∃ u, e = .returned u ∧ EffR μ H W (.bool true) H' u w' := callsIn_wide.1 (hcalls Fence.wide 0 ⟨fun _ => trivial, rfl, rfl⟩)
    refine hw.mono ?_
    rintro e w' ⟨u, rfl, hE⟩
    refine ⟨?_, below_of i.no hE⟩
    obtain ⟨μ', hv, -⟩ := hE
    rw [hv.bool_inv]
end Go.PI
/- PARTITIONS: sums, checks, orders, of both. -/
open Go.Proofs
namespace Go.PI
open IM
set_option maxRecDepth 20000
set_option maxHeartbeats 4000000
variable (S : FuncId → Option (List AV → Heap → Option (AV × Heap)))
def sm : List Int → Int
  | [] => 0
  | x :: xs => x + sm xs
theorem sm_app (xs ys : List Int) : sm (xs ++ ys) = sm xs + sm ys := by
  induction xs with
  | nil => simp [sm]
  | cons x xs ih => simp only [List.cons_append, sm, ih]; omega
theorem sm_next {xs : List Int} {i : Nat} {x : Int} (h : xs[i]? = some x) : sm (xs.take (i + 1)) = sm (xs.take i) + x := by
  rw [List.take_add_one, h, sm_app]
  simp [sm]
def Few (xs : List Int) : Prop := xs.length ≤ 1000 ∧ ∀ x ∈ xs, 0 ≤ x ∧ x ≤ 100
theorem sm_bd {xs : List Int} (h : ∀ x ∈ xs, 0 ≤ x ∧ x ≤ 100) : 0 ≤ sm xs ∧ sm xs ≤ 100 * xs.length := by
  induction xs with
  | nil => simp [sm]
  | cons x xs ih =>
    have h1 := h x List.mem_cons_self
    have h2 := ih fun y hy => h y (List.mem_cons_of_mem _ hy)
    simp only [sm, List.length_cons]
    omega
theorem sm_bdt {xs : List Int} (h : Few xs) (i : Nat) : 0 ≤ sm (xs.take i) ∧ sm (xs.take i) ≤ 100000 := by
  have := sm_bd (xs := xs.take i) fun x hx => h.2 x (List.mem_of_mem_take hx)
  have hl : (xs.take i).length ≤ 1000 := by have := h.1; simp; omega
  omega
theorem fn88 : ctx.fn 88 = some c88 := by kernel_rfl
theorem fn30 : ctx.fn 30 = some c30 := by kernel_rfl
theorem size'_ct (hS : OldO S) {xs : List Int} (h : Few xs) : Ct (ctx.plus S) 88 [pIs xs] 0 fun r => r = pn (sm xs) := by
  have hl := h.1
  refine ct_of (hS 88 (by decide)) fn88 ?_
  refine ⟨fun m s => ∃ (i : Nat) (T : List PV), s = ⟨T, [], 0⟩ ∧ Gt T 17 [(3, pn (sm (xs.take i))), (6, pIs xs), (7, pn xs.length), (8, pn i)] ∧ m = xs.length - i ∧ i ≤ xs.length, ⟨_, ci ⟨0, _, rfl, ⟨rfl, rfl, rfl, rfl, rfl, trivial⟩, rfl, Nat.zero_le _⟩⟩, ?_⟩
  rintro m s ⟨i, T, rfl, hT, hm, hi⟩
  obtain ⟨J, rfl⟩ := gt_open hT
  clear hT
  have hb := sm_bdt h i
  refine ⟨fun hlt => ?_, fun hge => ?_⟩
  · obtain ⟨x, hx⟩ := xs_get (xs := xs) (i := i) (by omega)
    have hxb := h.2 x (List.mem_of_getElem? hx)
    refine ⟨⟨⟨by omega, by omega⟩, len_map_le (by omega)⟩, ?_⟩
    refine ⟨_, ld (at_map hx) (by show _ * 1 = i; omega), ?_⟩
    refine ⟨⟨by omega, by omega⟩, ?_⟩
    refine ⟨⟨by omega, by omega⟩, ?_⟩
    exact ⟨_, by omega, ci ⟨i + 1, _, rfl, ⟨rfl, by show pn _ = pn _; rw [sm_next hx], rfl, rfl, by show pn _ = pn _; norm_cast, trivial⟩, rfl, by omega⟩⟩
  · have : i = xs.length := by omega
    subst this
    exact endq rfl (by rw [List.take_of_length_le (Nat.le_refl _)]; rfl)
theorem rsize'_ct (hS : OldO S) {xs : List Int} (h : Few xs) : Ct (ctx.plus S) 30 [pIs xs] 0 fun r => r = pn (sm xs) := by
  have hl := h.1
  refine ct_of (hS 30 (by decide)) fn30 ?_
  refine ⟨fun m s => ∃ (i : Nat) (T : List PV), s = ⟨T, [], 0⟩ ∧ Gt T 18 [(0, pIs xs), (3, pn (sm (xs.take i))), (4, pn i)] ∧ m = xs.length - i ∧ i ≤ xs.length, ⟨_, ci ⟨0, _, rfl, ⟨rfl, rfl, rfl, rfl, trivial⟩, rfl, Nat.zero_le _⟩⟩, ?_⟩
  rintro m s ⟨i, T, rfl, hT, hm, hi⟩
  obtain ⟨J, rfl⟩ := gt_open hT
  clear hT
  have hb := sm_bdt h i
  refine ⟨fun hlt => ?_, fun hge => ?_⟩
  · obtain ⟨x, hx⟩ := xs_get (xs := xs) (i := i) (by omega)
    have hxb := h.2 x (List.mem_of_getElem? hx)
    refine ⟨⟨⟨by omega, by omega⟩, len_map_le (by omega)⟩, ?_⟩
    refine ⟨_, ld (at_map hx) (by show _ * 1 = i; omega), ?_⟩
    refine ⟨⟨by omega, by omega⟩, ?_⟩
    refine ⟨⟨by omega, by omega⟩, ?_⟩
    exact ⟨_, by omega, ci ⟨i + 1, _, rfl, ⟨rfl, rfl, by show pn _ = pn _; rw [sm_next hx], by show pn _ = pn _; norm_cast, trivial⟩, rfl, by omega⟩⟩
  · have : i = xs.length := by omega
    subst this
    exact endq rfl (by rw [List.take_of_length_le (Nat.le_refl _)]; rfl)
def ckL (prev : Int) : List Int → Int
  | [] => 0
  | x :: xs => if 1 ≤ x ∧ x ≤ 20 then (if x > prev then 9 else ckL x xs) else 2
def ckV (xs : List Int) : Int := if 20 < xs.length then 8 else if ckL 1000 xs = 0 then (if 20 < sm xs then 8 else 0) else ckL 1000 xs
def prv (xs : List Int) (i : Nat) : Int := if i = 0 then 1000 else xs.getD (i - 1) 0
theorem ckL_at {xs : List Int} {i : Nat} {x : Int} (h : xs[i]? = some x) : ckL (prv xs i) (xs.drop i) = if 1 ≤ x ∧ x ≤ 20 then (if x > prv xs i then 9 else ckL (prv xs (i + 1)) (xs.drop (i + 1))) else 2 := by
  have hi := (List.getElem?_eq_some_iff.1 h).1
  have hd : xs.drop i = x :: xs.drop (i + 1) := by
    rw [List.drop_eq_getElem_cons hi]
    congr 1
    exact (List.getElem?_eq_some_iff.1 h).2
  have hp : prv xs (i + 1) = x := by
    unfold prv
    rw [if_neg (by omega), Nat.add_sub_cancel, List.getD_eq_getElem?_getD, h]
    rfl
  rw [hd, hp]
  rfl
theorem ckL_valid {xs : List Int} : ∀ {prev : Int}, ckL prev xs = 0 → ∀ x ∈ xs, 1 ≤ x ∧ x ≤ 20 := by
  induction xs with
  | nil => intro _ _ x hx; cases hx
  | cons y ys ih =>
    intro prev h x hx
    unfold ckL at h
    split at h
    · rename_i hy
      split at h
      · cases h
      · rcases List.mem_cons.1 hx with rfl | hx
        · exact hy
        · exact ih h x hx
    · cases h
theorem ckV_ok {xs : List Int} (h : ckV xs = 0) : xs.length ≤ 20 ∧ (∀ x ∈ xs, 1 ≤ x ∧ x ≤ 20) ∧ sm xs ≤ 20 ∧ ckL 1000 xs = 0 := by
  unfold ckV at h
  split at h
  · cases h
  · split at h
    · split at h
      · cases h
      · rename_i h1 h2 h3
        exact ⟨by omega, ckL_valid h2, by omega, h2⟩
    · rename_i h1 h2
      exact absurd h h2
theorem ckV_bd {xs : List Int} (h : ckV xs = 0) : Few xs := ⟨by have := (ckV_ok h).1; omega, fun x hx => by have := (ckV_ok h).2.1 x hx; omega⟩
theorem fn56 : ctx.fn 56 = some c56 := by kernel_rfl
theorem fn16 : ctx.fn 16 = some c16 := by kernel_rfl
theorem ck_ct (hS : OldO S) {xs : List Int} (hl : xs.length ≤ 1000000) : Ct (ctx.plus S) 56 [pIs xs] 0 fun r => r = pn (ckV xs) := by
  refine ct_of (hS 56 (by decide)) fn56 ?_
  refine ⟨fun hgt => ?_, fun hle => ?_⟩
  · exact endq rfl (by unfold ckV; rw [if_pos (by omega)])
  have hl2 : xs.length ≤ 20 := by omega
  refine ⟨fun m s => ∃ (i : Nat) (T : List PV), s = ⟨T, [], 0⟩ ∧ Gt T 35 [(0, pIs xs), (8, pIs xs), (9, pn xs.length), (10, pn i)] ∧ m = xs.length - i ∧ i ≤ xs.length ∧ Hid (ckL 1000 xs = ckL (prv xs i) (xs.drop i)) ∧ Hid (∀ x ∈ xs.take i, 1 ≤ x ∧ x ≤ 20), ⟨_, ci ⟨0, _, rfl, ⟨rfl, rfl, rfl, rfl, rfl, trivial⟩, rfl, Nat.zero_le _, ⟨rfl⟩, ⟨fun x hx => by simp at hx⟩⟩⟩, ?_⟩
  rintro m s ⟨i, T, rfl, hT, hm, hi, hI, hV⟩
  obtain ⟨J, rfl⟩ := gt_open hT
  clear hT
  refine ⟨fun hlt => ?_, fun hge => ?_⟩
  · obtain ⟨x, hx⟩ := xs_get (xs := xs) (i := i) (by omega)
    have hat := ckL_at hx
    refine ⟨⟨⟨by omega, by omega⟩, len_map_le (by omega)⟩, ?_⟩
    refine ⟨_, ld (at_map hx) (by show _ * 1 = i; omega), ?_⟩
    refine callq rfl (within_ct S hS) (by omega) ?_
    rintro _ rfl
    by_cases hw : 1 ≤ x ∧ x ≤ 20
    · rw [decide_eq_true hw]
      rw [if_pos hw] at hat
      refine ⟨fun h0 => ?_, fun h0 => ?_⟩
      · have hi0 : 0 < i := by omega
        obtain ⟨y, hy⟩ := xs_get (xs := xs) (i := i - 1) (by omega)
        have hp : prv xs i = y := by
          unfold prv
          rw [if_neg (by omega), List.getD_eq_getElem?_getD, hy]
          rfl
        rw [hp] at hat
        refine ⟨⟨by omega, by omega⟩, ?_⟩
        refine ⟨⟨⟨by omega, by omega⟩, len_map_le (by omega)⟩, ?_⟩
        refine ⟨_, ld (at_map hy) (by show _ * 1 = i - 1; omega), ?_⟩
        refine ⟨fun hgt => ?_, fun hle2 => ?_⟩
        · refine endq rfl ?_
          have : ckL 1000 xs = 9 := by rw [hI.h, hp, hat, if_pos (by omega)]
          unfold ckV
          rw [if_neg (by omega), this, if_neg (by decide)]
        · refine ⟨⟨by omega, by omega⟩, ?_⟩
          exact ⟨_, by omega, ci ⟨i + 1, _, rfl, ⟨rfl, rfl, rfl, rfl, by show pn _ = pn _; norm_cast, trivial⟩, rfl, by omega, ⟨by rw [hI.h, hp, hat, if_neg (by omega)]⟩, ⟨fun z hz => by
            rw [List.take_add_one, hx] at hz
            rcases List.mem_append.1 hz with hz | hz
            · exact hV.h z hz
            · simp at hz; subst hz; exact hw⟩⟩⟩
      · have hi0 : i = 0 := by omega
        subst hi0
        refine ⟨⟨by omega, by omega⟩, ?_⟩
        have hp : ¬ x > prv xs 0 := by unfold prv; rw [if_pos rfl]; omega
        rw [if_neg hp] at hat
        exact ⟨_, by omega, ci ⟨0 + 1, _, rfl, ⟨rfl, rfl, rfl, rfl, by show pn _ = pn _; norm_cast, trivial⟩, rfl, by omega, ⟨by rw [hI.h, hat]⟩, ⟨fun z hz => by
            rw [List.take_add_one, hx] at hz
            rcases List.mem_append.1 hz with hz | hz
            · exact hV.h z hz
            · simp at hz; subst hz; exact hw⟩⟩⟩
    · rw [decide_eq_false hw]
      rw [if_neg hw] at hat
      refine endq rfl ?_
      have : ckL 1000 xs = 2 := by rw [hI.h, hat]
      unfold ckV
      rw [if_neg (by omega), this, if_neg (by decide)]
  · have hii : i = xs.length := by omega
    subst hii
    have hv0 : ckL 1000 xs = 0 := by rw [hI.h, List.drop_of_length_le (Nat.le_refl _)]; rfl
    have hb : Few xs := ⟨by omega, fun x hx => by have := hV.h x (by rw [List.take_of_length_le (Nat.le_refl _)]; exact hx); omega⟩
    refine callq rfl (size'_ct S hS hb) (by omega) ?_
    rintro _ rfl
    refine ⟨fun hgt => ?_, fun hle2 => ?_⟩
    · exact endq rfl (by unfold ckV; rw [if_neg (by omega), if_pos hv0, if_pos (by omega)])
    · exact endq rfl (by unfold ckV; rw [if_neg (by omega), if_pos hv0, if_neg (by omega)])
end Go.PI
/- PARTITIONS, of the reference; orders and genus of both. -/
open Go.Proofs
namespace Go.PI
open IM
set_option maxRecDepth 20000
set_option maxHeartbeats 4000000
variable (S : FuncId → Option (List AV → Heap → Option (AV × Heap)))
theorem rck_ct (hS : OldO S) {xs : List Int} (hl : xs.length ≤ 1000000) : Ct (ctx.plus S) 16 [pIs xs] 0 fun r => r = pn (ckV xs) := by
  refine ct_of (hS 16 (by decide)) fn16 ?_
  refine ⟨fun hgt => ?_, fun hle => ?_⟩
  · exact endq rfl (by unfold ckV; rw [if_pos (by omega)])
  have hl2 : xs.length ≤ 20 := by omega
  refine ⟨fun m s => ∃ (i : Nat) (T : List PV), s = ⟨T, [], 0⟩ ∧ Gt T 36 [(0, pIs xs), (3, pn i)] ∧ m = xs.length - i ∧ i ≤ xs.length ∧ Hid (ckL 1000 xs = ckL (prv xs i) (xs.drop i)) ∧ Hid (∀ x ∈ xs.take i, 1 ≤ x ∧ x ≤ 20), ⟨_, ci ⟨0, _, rfl, ⟨rfl, rfl, rfl, trivial⟩, rfl, Nat.zero_le _, ⟨rfl⟩, ⟨fun x hx => by simp at hx⟩⟩⟩, ?_⟩
  rintro m s ⟨i, T, rfl, hT, hm, hi, hI, hV⟩
  obtain ⟨J, rfl⟩ := gt_open hT
  clear hT
  refine ⟨fun hlt => ?_, fun hge => ?_⟩
  · obtain ⟨x, hx⟩ := xs_get (xs := xs) (i := i) (by omega)
    have hat := ckL_at hx
    refine ⟨⟨⟨by omega, by omega⟩, len_map_le (by omega)⟩, ?_⟩
    refine ⟨_, ld (at_map hx) (by show _ * 1 = i; omega), ?_⟩
    refine callq rfl (rwithin_ct S hS) (by omega) ?_
    rintro _ rfl
    by_cases hw : 1 ≤ x ∧ x ≤ 20
    · rw [decide_eq_true hw]
      rw [if_pos hw] at hat
      refine ⟨by kernel_rfl, ?_⟩
      refine ⟨fun h0 => ?_, fun h0 => ?_⟩
      · have hi0 : 0 < i := by omega
        obtain ⟨y, hy⟩ := xs_get (xs := xs) (i := i - 1) (by omega)
        have hp : prv xs i = y := by
          unfold prv
          rw [if_neg (by omega), List.getD_eq_getElem?_getD, hy]
          rfl
        rw [hp] at hat
        refine ⟨⟨⟨by omega, by omega⟩, len_map_le (by omega)⟩, ?_⟩
        refine ⟨_, ld (at_map hx) (by show _ * 1 = i; omega), rfl, ?_⟩
        refine ⟨⟨by omega, by omega⟩, ?_⟩
        refine ⟨⟨⟨by omega, by omega⟩, len_map_le (by omega)⟩, ?_⟩
        refine ⟨_, ld (at_map hy) (by show _ * 1 = i - 1; omega), rfl, ?_⟩
        refine ⟨fun hgt => ?_, fun hle2 => ?_⟩
        · refine endq rfl ?_
          have : ckL 1000 xs = 9 := by rw [hI.h, hp, hat, if_pos (by omega)]
          unfold ckV
          rw [if_neg (by omega), this, if_neg (by decide)]
        · refine ⟨⟨by omega, by omega⟩, ?_⟩
          exact ⟨_, by omega, ci ⟨i + 1, _, rfl, ⟨rfl, rfl, by show pn _ = pn _; norm_cast, trivial⟩, rfl, by omega, ⟨by rw [hI.h, hp, hat, if_neg (by omega)]⟩, ⟨fun z hz => by
            rw [List.take_add_one, hx] at hz
            rcases List.mem_append.1 hz with hz | hz
            · exact hV.h z hz
            · simp at hz; subst hz; exact hw⟩⟩⟩
      · have hi0 : i = 0 := by omega
        subst hi0
        refine ⟨⟨by omega, by omega⟩, ?_⟩
        have hp : ¬ x > prv xs 0 := by unfold prv; rw [if_pos rfl]; omega
        rw [if_neg hp] at hat
        exact ⟨_, by omega, ci ⟨0 + 1, _, rfl, ⟨rfl, rfl, by show pn _ = pn _; norm_cast, trivial⟩, rfl, by omega, ⟨by rw [hI.h, hat]⟩, ⟨fun z hz => by
            rw [List.take_add_one, hx] at hz
            rcases List.mem_append.1 hz with hz | hz
            · exact hV.h z hz
            · simp at hz; subst hz; exact hw⟩⟩⟩
    · rw [decide_eq_false hw]
      rw [if_neg hw] at hat
      refine endq rfl ?_
      have : ckL 1000 xs = 2 := by rw [hI.h, hat]
      unfold ckV
      rw [if_neg (by omega), this, if_neg (by decide)]
  · have hii : i = xs.length := by omega
    subst hii
    have hv0 : ckL 1000 xs = 0 := by rw [hI.h, List.drop_of_length_le (Nat.le_refl _)]; rfl
    have hb : Few xs := ⟨by omega, fun x hx => by have := hV.h x (by rw [List.take_of_length_le (Nat.le_refl _)]; exact hx); omega⟩
    refine callq rfl (rsize'_ct S hS hb) (by omega) ?_
    rintro _ rfl
    refine ⟨fun hgt => ?_, fun hle2 => ?_⟩
    · exact endq rfl (by unfold ckV; rw [if_neg (by omega), if_pos hv0, if_pos (by omega)])
    · exact endq rfl (by unfold ckV; rw [if_neg (by omega), if_pos hv0, if_neg (by omega)])
theorem fn72 : ctx.fn 72 = some c72 := by kernel_rfl
end Go.PI
