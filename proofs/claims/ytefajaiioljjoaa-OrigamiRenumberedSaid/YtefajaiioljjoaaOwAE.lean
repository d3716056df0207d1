/- Own work of the verifier: PiEff PiApp PiEff2 PiCall. -/
import Derived.Test.YtefajaiioljjoaaOwAD
import Derived.Deep.AppendSrc
import Derived.Lib.AppendZeros
import Derived.Laws.BytesString
set_option linter.all false
set_option exponentiation.threshold 3000
set_option linter.deprecated false
namespace Go.PI
variable {P : Program} {C : Ctx} {μ : M}
theorem splice_get {cs : List AV} {off : Nat} {vs : List AV} (h : off + vs.length ≤ cs.length) : (splice cs off vs).length = cs.length := by
  unfold splice; simp; omega
theorem store_cells {H : Heap} {w : World} (hH : HR μ H w) {b o : Nat} {bi : BI} {ty : TypeId} {cs vs : List AV} {us : List Value} (hg : H.get b = .cells true ty cs) (hm : μ b = some bi) (hl : o + vs.length ≤ cs.length) (hv : VRs μ vs us) (h1 : ones vs = true) :
    ∃ w', (storeCells ⟨bi.c, bi.base + o, none⟩ us).run P w = .ok () w' ∧ HR μ (H.set b (.cells true ty (splice cs o vs))) w' ∧ Fr μ H w μ (H.set b (.cells true ty (splice cs o vs))) w' := by
  obtain ⟨hlt, carr, fz, hw, htop, hlen, hvs, hfz⟩ := hH.cells hg hm
  have hf0 := hfz rfl; subst hf0
  have hul := hv.length
  refine ⟨_, run_storeCells_at P bi.c (bi.base + o) ty us 0 carr w hw (by omega) (ones_sim hv h1), ?_⟩
  refine hH.set (by rw [hg]; rfl) hm ⟨rfl, rfl, rfl⟩ (by simp) (fun k hk => setRow_other _ _ _ _ hk) ?_
  refine ⟨_, _, setRow_heap _ _ _ _ _ _ hw, by simp; omega, by rw [splice_get hl]; exact hlen, ?_, fun _ => rfl, hH.base hg hm⟩
  rw [splice_get hl]
  have := hvs.splice hv o
  have key : (carr.toList.take (bi.base + o) ++ us ++ carr.toList.drop (bi.base + o + us.length)).drop bi.base = (carr.toList.drop bi.base).take o ++ us ++ (carr.toList.drop bi.base).drop (o + us.length) := by
    rw [List.append_assoc, List.drop_append, List.drop_take, List.length_take, Array.length_toList, Nat.min_eq_left (by omega), show bi.base + o - bi.base = o by omega, show bi.base - (bi.base + o) = 0 by omega, List.drop_zero, List.drop_drop, ← Nat.add_assoc, List.append_assoc]
  rw [Nat.add_zero, List.toList_toArray, key]
  have hLl : (carr.toList.drop bi.base).length = bi.top := by simp; omega
  generalize carr.toList.drop bi.base = L at *
  rw [← hul] at this
  rw [← hul]
  simp only [List.take_append, List.take_take, List.length_append, List.length_take]
  rw [Nat.min_eq_right (show o ≤ cs.length by omega), Nat.min_eq_left (show o ≤ L.length by omega), List.take_of_length_le (show us.length ≤ cs.length - o by omega)]
  rw [List.take_take, Nat.min_eq_left (show o ≤ cs.length by omega), List.drop_take] at this
  rw [show cs.length - (o + us.length) = cs.length - (o + vs.length) by rw [hul]]
  exact this
theorem storeE_sim (hC : Ctx.Ok P C) {H H' : Heap} {w : World} (hH : HR μ H w) {t : TypeId} {a v : AV} {a' v' : Value} (h : storeE C t a v H = some H') (ha : VR μ a a') (hv : VR μ v v') :
    ∃ w', (Instr.storeAt t a' v').run P w = .ok () w' ∧ HR μ H' w' ∧ Fr μ H w μ H' w' := by
  unfold storeE at h
  split at h
  · rename_i i b o hi
    obtain ⟨bi, hbi, rfl⟩ := ha.ptr_inv
    obtain ⟨ti, z, h1, h2, h3, -⟩ := hC.got hi
    split at h
    · rename_i ty cs hg
      split at h
      · rename_i hc
        obtain ⟨c1, c2, c3⟩ := hc
        cases h
        obtain ⟨w', hr, hh⟩ := store_cells (P := P) hH hg hbi (show o + v.cells.length ≤ cs.length by omega) hv.cells c3
        refine ⟨w', ?_, hh⟩
        have : v'.cells.size = i.size := by rw [← Array.length_toList, ← hv.cells.length]; exact c1
        simp only [Instr.storeAt, Instr.sureAddr, storeVar, Sem.run_bind, Sem.run_pure, Result.andThen_ok, run_size h2, h3, this, ne_eq, not_true_eq_false, if_false]
        exact hr
      · cases h
    · cases h
  · cases h
theorem lenE_sim {x : AV} {x' : Value} {n : Nat} (h : lenE x = some n) (hx : VR μ x x') (w : World) : (Builtin.lenOf x').run P w = .ok n w := by
  cases hx <;> simp only [lenE] at h <;> first | (cases h; done) | (cases h; rfl)
theorem cellsE_sim {H : Heap} {w : World} (hH : HR μ H w) {size n : Nat} {x : AV} {x' : Value} {cs : List AV} (h : cellsE H size n x = some cs) (hx : VR μ x x') (hn : ∀ m, lenE x = some m → n ≤ m) :
    ∃ us : List Value, (∀ w', w'.heap = w.heap → (Builtin.firstCells size n x').run P w' = .ok us.toArray w') ∧ VRs μ cs us ∧ cs.length = n * size := by
  cases hx <;> simp only [cellsE] at h
  case nils =>
    split at h
    · rename_i h0; subst h0; cases h; exact ⟨[], fun _ _ => rfl, .nil, by simp⟩
    · cases h
  case sle a c =>
    split at h
    · rename_i h0; subst h0; cases h
      refine ⟨[], fun w' _ => ?_, .nil, by simp⟩
      simp [Builtin.firstCells, loadCells, loadCellsFrom]
    · cases h
  case str s =>
    split at h
    · rename_i hc
      obtain ⟨rfl, hc⟩ := hc
      cases h
      refine ⟨(s.data.toList.take n).map fun b => .int .u8 b.toNat, fun w' _ => ?_, ?_, by simp; omega⟩
      · simp only [Builtin.firstCells, Sem.run_pure]
        congr 1
        apply Array.ext'
        simp [ByteArray.data_extract, List.extract_eq_take_drop]
      · generalize s.data.toList.take n = l
        induction l with
        | nil => exact .nil
        | cons b l ih => exact .cons (.int _ _) ih
    · cases h
  case sl b o l c bi hb =>
    split at h
    · rename_i rw' ty ds hg
      obtain ⟨hlt, carr, fz, hw, htop, hlen, hvs, hfz⟩ := hH.cells hg hb
      split at h
      · rename_i hc
        cases h
        refine ⟨_, fun w' e => by simp only [Builtin.firstCells]; exact loadCells_sim (by rw [e]; exact hw) (by omega), ?_, by simp; omega⟩
        have := VRs.sub (k := 0) hvs o _ hc
        rwa [List.drop_drop] at this
      · cases h
    · cases h
  case slu b o l c e bi hb h1 h2 h2m =>
    split at h
    · rename_i rw' ty ds hg
      obtain ⟨hlt, carr, fz, hw, htop, hlen, hvs, hfz⟩ := hH.cells hg hb
      split at h
      · rename_i hc
        cases h
        refine ⟨_, fun w' e => by simp only [Builtin.firstCells]; exact loadCells_sim (by rw [e]; exact hw) (by omega), ?_, by simp; omega⟩
        have := VRs.sub (k := 0) hvs o _ hc
        rwa [List.drop_drop] at this
      · cases h
    · cases h
  case sluz b bi hb o e a =>
    have hn0 : n = 0 := by have := hn 0 rfl; omega
    subst hn0
    split at h
    · split at h
      · cases h
        refine ⟨[], fun w' _ => ?_, by simp; exact .nil, by simp⟩
        simp [Builtin.firstCells, loadCells, loadCellsFrom]
      · cases h
    · cases h
  all_goals cases h
theorem copyE_sim (hC : Ctx.Ok P C) {H H' : Heap} {w : World} (hH : HR μ H w) {ts : Array TypeId} {d x v : AV} {d' x' : Value} (h : copyE C ts.toList d x H = some (v, H')) (hd : VR μ d d') (hx : VR μ x x') (ty : TypeId) :
    ∃ u w', (Builtin.copy_ ts ty #[d', x']).run P w = .ok u w' ∧ EffR μ H w v H' u w' := by
  unfold copyE at h
  split at h
  · rename_i t r et
    obtain ⟨tl⟩ := ts; simp only at et; subst et
    split at h
    · rename_i e _ _ _ hi
      obtain ⟨ti, z, h1, -⟩ := hC.got hi
      split at h
      · rename_i ei dl xl he hdl hxl
        obtain ⟨tj, z', -, h2, h3, -⟩ := hC.got he
        split at h
        · rename_i new hnew
          have hle : Nat.min xl dl ≤ xl := Nat.min_le_left _ _
          obtain ⟨us, hrun, hus, hlen⟩ := cellsE_sim (P := P) hH hnew hx (fun m hm => by rw [hxl] at hm; cases hm; exact hle)
          have hrun := hrun w rfl
          have hxr := lenE_sim (P := P) hxl hx w
          have hmm : ∀ dl', lenE d = some dl' → Nat.min xl dl' = Nat.min xl dl := fun dl' e => by rw [hdl] at e; cases e; rfl
          generalize Nat.min xl dl = m at *
          cases hd <;> simp only at h <;> first | (cases h; done) | skip
          case nils =>
            cases h
            have hm2 : m = 0 := by rw [← hmm 0 rfl]; simp
            subst hm2
            refine ⟨.int .i64 (0 : Nat), w, ?_, μ, .int _ _, hH, Fr.refl _ _ _⟩
            simp [Builtin.copy_, run_und h1, hxr, run_size h2, h3, hrun, goInt]
          case sle a c =>
            cases h
            have hm2 : m = 0 := by rw [← hmm 0 rfl]; simp
            subst hm2
            have h0 : new.length = 0 := by rw [hlen]; simp
            have : us = [] := by
              have := hus.length; rw [h0] at this
              exact List.eq_nil_of_length_eq_zero this.symm
            subst this
            refine ⟨.int .i64 (0 : Nat), w, ?_, μ, .int _ _, hH, Fr.refl _ _ _⟩
            simp [Builtin.copy_, run_und h1, hxr, run_size h2, h3, hrun, goInt, storeCells]
          case sl b o l c bi hb =>
            split at h
            · rename_i ty' cs hg
              split at h
              · rename_i hc
                cases h
                have hm2 := hmm l rfl
                obtain ⟨w', hw', hh, hf⟩ := store_cells (P := P) hH hg hb hc.1 hus hc.2
                refine ⟨.int .i64 (m : Nat), w', ?_, μ, .int _ _, hh, hf⟩
                simp [Builtin.copy_, run_und h1, hxr, run_size h2, h3, hm2, hrun, goInt, hw']
              · cases h
            · cases h
          case slu b o l c e' bi hb hb1 hb2 hb3 =>
            split at h
            · rename_i ty' cs hg
              split at h
              · rename_i hc
                cases h
                have hm2 := hmm l rfl
                obtain ⟨w', hw', hh, hf⟩ := store_cells (P := P) hH hg hb hc.1 hus hc.2
                refine ⟨.int .i64 (m : Nat), w', ?_, μ, .int _ _, hh, hf⟩
                simp [Builtin.copy_, run_und h1, hxr, run_size h2, h3, hm2, hrun, goInt, hw']
              · cases h
            · cases h
          case sluz b bi hb o e' a =>
            split at h
            · rename_i ty' cs hg
              split at h
              · rename_i hc
                cases h
                have hm2 : m = 0 := by rw [← hmm 0 rfl]; simp
                subst hm2
                have h0 : new.length = 0 := by rw [hlen]; simp
                have h0' : new = [] := List.eq_nil_of_length_eq_zero h0
                subst h0'
                have : us = [] := by
                  have := hus.length; rw [h0] at this
                  exact List.eq_nil_of_length_eq_zero this.symm
                subst this
                have hsp : splice cs o [] = cs := by simp [splice]
                rw [hsp]
                obtain ⟨g1, g2⟩ := hH.alike (H' := H.set b (.cells true ty' cs)) rfl (Heap.set_same hg rfl hH.lim)
                refine ⟨.int .i64 (0 : Nat), w, ?_, μ, .int _ _, g1, g2⟩
                simp [Builtin.copy_, run_und h1, hxr, run_size h2, h3, hrun, goInt, storeCells]
              · cases h
            · cases h
        · cases h
      · cases h
    · cases h
  · cases h
end Go.PI
namespace Go.PI
variable {P : Program} {C : Ctx} {μ : M}
theorem HR.same {H : Heap} {w w' : World} (h : HR μ H w) (e : w'.heap = w.heap) : HR μ H w' :=
  ⟨h.lim, h.dom, fun A bi hl hm => by
    obtain ⟨h1, h2⟩ := h.blk A bi hl hm
    exact ⟨by rw [e]; exact h1, h2.mono (M.le.refl _) (by rw [e])⟩, h.inj⟩
theorem grow_bound (need : Nat) : ∀ (k c : Nat), Builtin.growBy need k c ≤ max c (need + (need + 768) / 4)
  | 0, c => by simp [Builtin.growBy]; omega
  | k + 1, c => by
    simp only [Builtin.growBy]
    split
    · omega
    · have := grow_bound need k (c + (c + 768) / 4)
      omega
theorem next_bound (need cap : Nat) (h : cap < need) : Builtin.nextslicecap need cap ≤ 2 * need + 1000 := by
  unfold Builtin.nextslicecap
  split
  · omega
  · split
    · omega
    · have := grow_bound need 4 cap
      omega
theorem bound48 {need cap bytes : Nat} (h : cap < need) (hn : need ≤ 2147483648) (hb : bytes ≤ 1024) : Builtin.nextslicecap need cap * bytes ≤ 281474976710656 := by
  have h1 := next_bound need cap h
  have h2 := Nat.mul_le_mul h1 hb
  have h3 : (2 * need + 1000) * 1024 ≤ 281474976710656 := by omega
  exact Nat.le_trans h2 h3
theorem append_room {t tx e : TypeId} {r : List TypeId} {i : TypeInfo} {w w' : World} {x : Value} {n : Nat} {news : List Value} (ht : P.underlying t = some (.slice e)) (hi : P.info? e = some i) (hs : Src P i.size tx x n news w) (ty : TypeId) (b : Addr) (sLen sCap : Nat)
    (hroom : sLen + n ≤ sCap) (hst : (storeCells (b.add (sLen * i.size)) news).run P w = .ok () w') :
    (Builtin.append_ ⟨t :: tx :: r⟩ ty #[.slice (some b) sLen sCap, x]).run P w = .ok (.slice (some b) (sLen + n) sCap) w' := by
  rcases hs.kind with ⟨e', hk⟩ | hk <;> simp [Builtin.append_, run_und ht, run_und hk, sizeOf, typeInfo, hi, hs.len, hroom, hs.cells, hst]
theorem append_nothing {t tx e : TypeId} {r : List TypeId} {i : TypeInfo} {w : World} {x : Value} {news : List Value} (ht : P.underlying t = some (.slice e)) (hi : P.info? e = some i) (hs : Src P i.size tx x 0 news w) (ty : TypeId) :
    (Builtin.append_ ⟨t :: tx :: r⟩ ty #[.slice none 0 0, x]).run P w = .ok (.slice none 0 0) w := by
  rcases hs.kind with ⟨e', hk⟩ | hk <;> simp [Builtin.append_, run_und ht, run_und hk, sizeOf, typeInfo, hi, hs.len, hs.cells]
theorem append_types {t tx : TypeId} {r : List TypeId} {ty : TypeId} {args : Array Value} : Builtin.append_ ⟨t :: tx :: r⟩ ty args = Builtin.append_ #[t, tx] ty args := rfl
theorem Fr.drew {H : Heap} {w : World} {μ' : M} {H' : Heap} {w' : World} (h : Fr μ H w.drew μ' H' w') : Fr μ H w μ' H' w' := ⟨h.le, h.eq, h.n, h.os, h.tape, h.output, h.size, h.keep, h.ro⟩
theorem rep_get {α : Type} (l : List α) (d : α) (hl : 0 < l.length) : ∀ (n i : Nat), i < n * l.length -> (List.replicate n l).flatten.getD i d = l.getD (i % l.length) d
  | 0, i, h => by omega
  | n+1, i, h => by
    rw [List.replicate_succ, List.flatten_cons]
    rcases Nat.lt_or_ge i l.length with hi | hi
    · rw [List.getD_eq_getElem?_getD, List.getElem?_append_left hi, Nat.mod_eq_of_lt hi, ← List.getD_eq_getElem?_getD]
    · rw [List.getD_eq_getElem?_getD, List.getElem?_append_right hi, ← List.getD_eq_getElem?_getD, rep_get l d hl n (i - l.length) (by rw [Nat.add_mul] at h; omega), Nat.mod_eq_sub_mod hi]
theorem zc_list (z : Array Value) (hz : 0 < z.size) (n : Nat) : (Builtin.zeroCells z n).toList = (List.replicate n z.toList).flatten := by
  have hl : (Builtin.zeroCells z n).toList.length = ((List.replicate n z.toList).flatten).length := by simp [Builtin.zeroCells]
  refine List.ext_getElem hl fun i h1 h2 => ?_
  have hi : i < n * z.size := by simpa [Builtin.zeroCells] using h1
  have := rep_get z.toList default (by simpa using hz) n i (by simpa using hi)
  rw [List.getD_eq_getElem?_getD, List.getElem?_eq_getElem h2] at this
  simp only [Option.getD_some] at this
  rw [this]
  have hm : i % z.size < z.size := Nat.mod_lt _ hz
  simp [Builtin.zeroCells, hm]
theorem push_grown {H : Heap} {w : World} (hH : HR μ H w) (hn : H.n < PI.lim) {e : TypeId} {cs : List AV} {us rest : List Value} (hv : VRs μ cs us) (arr : Array Value) (ha : arr.toList = us ++ rest) :
    HR (μ.set H.n ⟨w.heap.size, arr.size, 0⟩) (H.push (.cells true e cs)) (w.drew.alloc (.cells arr e)) ∧ Fr μ H w (μ.set H.n ⟨w.heap.size, arr.size, 0⟩) (H.push (.cells true e cs)) (w.drew.alloc (.cells arr e)) := by
  have hH' : HR μ H w.drew := hH.same rfl
  have hle : M.le μ (μ.set H.n ⟨w.heap.size, arr.size, 0⟩) := M.le_set (hH.dom _ (Nat.le_refl _))
  have := hH'.push (w' := w.drew.alloc (.cells arr e)) hn (bi := ⟨w.heap.size, arr.size, 0⟩) (b := .cells true e cs) (Nat.le_refl _) (by simp only [World.size_alloc, World.size_drew]; omega) ⟨rfl, rfl, rfl⟩ (by simp only [World.size_alloc]; omega)
    (fun k hk => RowKit.Below.heap_alloc _ _ _ hk) ⟨arr, (0, 0), World.alloc_heap_new w.drew _, (Nat.zero_add _).symm, ?_, ?_, fun _ => rfl, .inl rfl⟩
  · exact ⟨this.1, this.2.drew⟩
  · show cs.length ≤ arr.size
    rw [← Array.length_toList, ha, hv.length]; simp
  · show VRs _ _ ((arr.toList.drop 0).take _)
    rw [List.drop_zero, ha, hv.length, List.take_left]; exact VRs.mono hle hv
set_option maxHeartbeats 400000 in
theorem appendE_sim (hC : Ctx.Ok P C) {H H' : Heap} {w : World} (hH : HR μ H w) {ts : Array TypeId} {s x v : AV} {s' x' : Value} (h : appendE C ts.toList s x H = some (v, H')) (hs : VR μ s s') (hx : VR μ x x') (ty : TypeId) :
    ∃ u w', (Builtin.append_ ts ty #[s', x']).run P w = .ok u w' ∧ EffR μ H w v H' u w' := by
  unfold appendE at h
  split at h
  · rename_i t tx r et
    obtain ⟨tl⟩ := ts; simp only at et; subst et
    split at h
    · rename_i e _ _ _ xi hi hxi
      obtain ⟨ti, z, h1, -⟩ := hC.got hi
      obtain ⟨tk, z2, h1x, -⟩ := hC.got hxi
      split at h
      · rename_i ei he
        obtain ⟨tj, z', -, h2, h3, h4, hz, hzr, hzl⟩ := hC.got he
        have hzs : z'.cells.size = ei.size := by
          have hzc : VRs μ ei.zero.cells z'.cells.toList := (hzr.mono (fun _ _ e => by cases e)).cells
          rw [← Array.length_toList, ← hzc.length]; exact hzl
        split at h
        · unfold appendZ at h
          split at h
          · rename_i kk kn m hd
            split at h
            · rename_i hcond
              obtain ⟨⟨hm0, hm1⟩, hby, hlim, hsz, -⟩ := hcond
              cases h
              cases hs
              cases hx
              rw [hd] at h1x
              obtain ⟨N, rfl⟩ : ∃ N : Nat, m = N := ⟨m.toNat, by omega⟩
              rw [Int.toNat_natCast]
              have hb : N * tj.bytes ≤ 281474976710656 := by
                have := Nat.mul_le_mul (show N ≤ 2 ^ 30 by omega) (show tj.bytes ≤ 2 ^ 10 by omega)
                omega
              have hrun := Go.Lib.run_append_nil_zeros (P := P) w t tx ty e tj z' kn kk h1 h1x h2 hz N (by omega) (by omega) (by omega) hb
              have hzv : VRs μ ei.zero.cells z'.cells.toList := (hzr.mono (fun _ _ e => by cases e)).cells
              have hz1 : (Builtin.zeroCells z'.cells N).toList = (List.replicate N z'.cells.toList).flatten := zc_list _ (by omega) N
              have hcap : N ≤ grownCap w N 0 e := by unfold grownCap; exact Nat.le_add_right _ _
              have hcapm : grownCap w N 0 e ≤ maxLen := Go.grownCap_le_maxLen _ _ _ _ (by unfold maxLen; omega)
              obtain ⟨g1, g2⟩ := push_grown hH hlim (e := e) (hzv.rep N) (Builtin.zeroCells z'.cells N ++ Builtin.zeroCells z'.cells (grownCap w N 0 e - N)) (rest := (Builtin.zeroCells z'.cells (grownCap w N 0 e - N)).toList) (by simp [hz1])
              refine ⟨_, _, (append_types ▸ hrun), _, ?_, g1, g2⟩
              refine .slu (M.set_self _ _ _) ?_ hcap hcapm
              rw [Nat.zero_add]
              refine Nat.le_of_eq ?_
              simp [Builtin.zeroCells, hzs]
              rw [← Nat.add_mul]; congr 1; omega
            · cases h
          · cases h
        · rename_i hcond
          simp only [not_or, Bool.not_eq_false] at hcond
          obtain ⟨hk0, hby, hlim⟩ := hcond
          have hlim : H.n < PI.lim := by omega
          have hkind : (∃ e', P.underlying tx = some (.slice e')) ∨ P.underlying tx = some .string := by
            cases hd : xi.desc <;> rw [hd] at hk0 h1x <;> first | (simp [srcOk] at hk0; done) | exact .inr h1x | exact .inl ⟨_, h1x⟩
          split at h
          · rename_i n hln
            split at h
            · cases h
            · rename_i hnb
              split at h
              · rename_i new hnew
                obtain ⟨us, hf, hus, hnl⟩ := cellsE_sim (P := P) hH hnew hx (fun m hm => by rw [hln] at hm; cases hm; exact Nat.le_refl _)
                split at h
                · cases h
                · rename_i hones
                  have hones : ones new = true := by simpa using hones
                  have hsrc : Src P tj.size tx x' n us w := ⟨hkind, fun w => lenE_sim hln hx w, h3 ▸ hf w rfl, h3 ▸ hf w.drew rfl, by rw [h3, ← hnl, hus.length], ones_sim hus hones⟩
                  have hb48 : ∀ sLen sCap, sLen ≤ 2 ^ 30 → sCap < sLen + n → Builtin.nextslicecap (sLen + n) sCap * tj.bytes ≤ 281474976710656 := fun sLen sCap ha hb => bound48 hb (by omega) (by omega)
                  have htop : ∀ (old : List Value) (sLen newCap : Nat), old.length = sLen * ei.size → sLen + n ≤ newCap → ((old ++ us).toArray ++ Builtin.zeroCells z'.cells (newCap - (sLen + n))).size = newCap * ei.size := fun old sLen newCap ho hc => by
                    have : us.length = n * ei.size := by rw [← hus.length]; exact hnl
                    simp [Builtin.zeroCells, ho, this, hzs]
                    rw [← Nat.add_mul, ← Nat.add_mul]; congr 1; omega
                  have hrow : ∀ (b : Option Addr) (sLen sCap : Nat) (olds : List Value) (oldA : List AV), sLen ≤ 2 ^ 30 → sCap < sLen + n → (∀ w', w'.heap = w.heap → (Builtin.firstCells ei.size sLen (.slice b sLen sCap)).run P w' = .ok olds.toArray w') → VRs μ oldA olds → oldA.length = sLen * ei.size →
                      ∃ u w', (Builtin.append_ ⟨t :: tx :: r⟩ ty #[.slice b sLen sCap, x']).run P w = .ok u w' ∧ EffR μ H w (.slu H.n 0 (sLen + n) ei.size) (H.push (.cells true e (oldA ++ new))) u w' := fun b sLen sCap olds oldA ha hb ho hv hol => by
                    have := run_append_grow_src (P := P) w t tx ty e tj z' h1 h2 hz b sLen sCap olds (h3 ▸ ho w.drew rfl) x' n us hsrc hb (by omega) (hb48 sLen sCap ha hb)
                    have hcap : sLen + n ≤ grownCap w (sLen + n) sCap e := by unfold grownCap; exact Nat.le_add_right _ _
                    have hcapm : grownCap w (sLen + n) sCap e ≤ maxLen := Go.grownCap_le_maxLen _ _ _ _ (by unfold maxLen; omega)
                    obtain ⟨g1, g2⟩ := push_grown hH hlim (e := e) (hv.append hus) ((olds ++ us).toArray ++ Builtin.zeroCells z'.cells (grownCap w (sLen + n) sCap e - (sLen + n))) (rest := (Builtin.zeroCells z'.cells (grownCap w (sLen + n) sCap e - (sLen + n))).toList) (by simp)
                    refine ⟨_, _, this, _, ?_, g1, g2⟩
                    refine .slu (M.set_self _ _ _) ?_ hcap hcapm
                    rw [Nat.zero_add]
                    exact Nat.le_of_eq (htop olds sLen _ (by rw [← hv.length]; exact hol) hcap).symm
                  cases hs <;> (try simp only at h) <;> first | (cases h; done) | skip
                  case nils =>
                    split at h
                    · rename_i hn0; subst hn0
                      cases h
                      exact ⟨_, _, append_nothing h1 h2 hsrc ty, μ, .nils, hH, Fr.refl _ _ _⟩
                    · rename_i hn0
                      cases h
                      have := hrow none 0 0 [] [] (by omega) (by omega) (fun w' _ => rfl) .nil (by simp)
                      simpa using this
                  case sl b o l c bi hb =>
                    split at h
                    · cases h
                    · rename_i hlb
                      split at h
                      · rename_i rw' ty' cs hg
                        split at h
                        · rename_i hroom
                          split at h
                          · rename_i hrw
                            subst hrw
                            split at h
                            · rename_i hfit
                              cases h
                              obtain ⟨w', hst, hh, hfr⟩ := store_cells (P := P) hH hg hb hfit hus hones
                              refine ⟨_, w', append_room h1 h2 hsrc ty ⟨bi.c, bi.base + o, none⟩ l c hroom (by rw [h3, add_same, Nat.add_assoc]; exact hst), μ, .sl hb, hh, hfr⟩
                            · cases h
                          · cases h
                        · rename_i hroom
                          split at h
                          · rename_i hfit
                            cases h
                            obtain ⟨hlt, carr, fz, hw, htp, hlen, hvs, hfz⟩ := hH.cells hg hb
                            exact hrow (some ⟨bi.c, bi.base + o, none⟩) l c _ _ (by omega) (by omega) (fun w' e => by simp only [Builtin.firstCells]; exact loadCells_sim (by rw [e]; exact hw) (by omega)) (by have := VRs.sub (k := 0) hvs o _ hfit; rwa [List.drop_drop] at this) (by simp; omega)
                          · cases h
                      · cases h
                  case slu b o l c esz bi hb hc1 hc2 hc3 =>
                    split at h
                    · cases h
                    · rename_i hlb
                      split at h
                      · rename_i ty' cs hg
                        split at h
                        · rename_i hcond
                          obtain ⟨rfl, rfl, hfit, hq0⟩ := hcond
                          cases h
                          obtain ⟨hlt, carr, fz, hw, htp, hlen, hvs, hfz⟩ := hH.cells hg hb
                          have hf0 := hfz rfl; subst hf0
                          have hul : us.length = n * ei.size := by rw [← hus.length]; exact hnl
                          have hvo : VRs μ ((cs.drop o).take (l * ei.size)) ((carr.toList.drop (bi.base + o)).take (l * ei.size)) := by
                            have := VRs.sub (k := 0) hvs o (l * ei.size) hfit
                            rwa [List.drop_drop] at this
                          by_cases hroom : l + n ≤ c
                          · -- within the machine's room: the very block
                            have hbig : o + (l * ei.size + us.length) ≤ bi.top := by
                              rw [hul, ← Nat.add_mul]; exact Nat.le_trans (Nat.add_le_add_left (Nat.mul_le_mul_right _ hroom) _) hc1
                            have hst := run_storeCells_at P bi.c (bi.base + o + l * ei.size) ty' us 0 carr w hw (by omega) (ones_sim hus hones)
                            rw [Nat.add_zero] at hst
                            have hle : M.le μ (μ.set H.n ⟨bi.c, bi.top - o, bi.base + o⟩) := M.le_set (hH.dom _ (Nat.le_refl _))
                            obtain ⟨g1, g2⟩ := hH.move (w' := w.setRow bi.c (carr.toList.take (bi.base + o + l * ei.size) ++ us ++ carr.toList.drop (bi.base + o + l * ei.size + us.length)).toArray) hlim (b := b) (bi := bi) (bi' := ⟨bi.c, bi.top - o, bi.base + o⟩) (blk := .cells true ty' ((cs.drop o).take (l * ei.size) ++ new)) (by rw [hg]; rfl) hb rfl ⟨rfl, rfl, rfl⟩ (by simp) (fun k hk => setRow_other _ _ _ _ hk)
                              (by
                                refine ⟨_, _, setRow_heap _ _ _ _ _ _ hw, by simp only [List.size_toArray, List.length_append, List.length_take, List.length_drop, Array.length_toList]; omega, ?_, ?_, fun _ => rfl, ?_⟩
                                rotate_left 2
                                · rcases hq0 with rfl | h
                                  · rcases hH.base hg hb with h | h
                                    · exact .inl (by show bi.base + 0 = 0; omega)
                                    · exact .inr h
                                  · exact .inr h
                                · have hnl2 : new.length = us.length := hus.length
                                  have e1 : ((cs.drop o).take (l * ei.size) ++ new).length = l * ei.size + us.length := by simp; omega
                                  rw [e1]
                                  show _ ≤ bi.top - o
                                  omega
                                refine VRs.mono hle ?_
                                have hnl2 : new.length = us.length := hus.length
                                have e1 : ((cs.drop o).take (l * ei.size) ++ new).length = l * ei.size + us.length := by simp; omega
                                rw [e1]
                                have e2 : ((carr.toList.take (bi.base + o + l * ei.size) ++ us ++ carr.toList.drop (bi.base + o + l * ei.size + us.length)).drop (bi.base + o)).take (l * ei.size + us.length) = (carr.toList.drop (bi.base + o)).take (l * ei.size) ++ us := by
                                  have hlk : (carr.toList.take (bi.base + o + l * ei.size)).length = bi.base + o + l * ei.size := by simp; omega
                                  rw [List.append_assoc, List.drop_append, List.drop_take, hlk, show bi.base + o + l * ei.size - (bi.base + o) = l * ei.size by omega, show bi.base + o - (bi.base + o + l * ei.size) = 0 by omega, List.drop_zero, ← List.append_assoc, List.take_append_of_le_length (by simp; omega), List.take_of_length_le (by simp; omega)]
                                show VRs μ _ (((carr.toList.take (bi.base + o + l * ei.size) ++ us ++ carr.toList.drop (bi.base + o + l * ei.size + us.length)).toArray.toList.drop (bi.base + o)).take _)
                                rw [List.toList_toArray, e2]
                                exact hvo.append hus)
                            exact ⟨_, _, append_room h1 h2 hsrc ty ⟨bi.c, bi.base + o, none⟩ l c hroom (by rw [h3, add_same]; exact hst), _, .slu (off := 0) (M.set_self _ _ _) (by have hc1' := hc1; show 0 + c * ei.size ≤ bi.top - o; generalize c * ei.size = z at *; omega) hroom hc3, g1, g2⟩
                          · -- a new row
                            have hroom' : c < l + n := by omega
                            have hbn : b < H.n := Heap.lt_of_get (fun e => by rw [hg] at e; cases e)
                            have hdead := hH.kill hbn hlim
                            have hold : ∀ w', w'.heap = w.heap → (Builtin.firstCells ei.size l (.slice (some ⟨bi.c, bi.base + o, none⟩) l c)).run P w' = .ok ((carr.toList.drop (bi.base + o)).take (l * ei.size)).toArray w' := fun w' e => by
                              simp only [Builtin.firstCells]; exact loadCells_sim (by rw [e]; exact hw) (by omega)
                            have hol : ((carr.toList.drop (bi.base + o)).take (l * ei.size)).length = l * ei.size := by simp; omega
                            have hrun := run_append_grow_src (P := P) w t tx ty ty' tj z' h1 h2 hz (some ⟨bi.c, bi.base + o, none⟩) l c ((carr.toList.drop (bi.base + o)).take (l * ei.size)) (by rw [h3]; exact hold w.drew rfl) x' n us hsrc hroom' (by omega) (hb48 l c (by omega) hroom')
                            have hcap : l + n ≤ grownCap w (l + n) c ty' := by unfold grownCap; exact Nat.le_add_right _ _
                            have hcapm : grownCap w (l + n) c ty' ≤ maxLen := Go.grownCap_le_maxLen _ _ _ _ (by unfold maxLen; omega)
                            obtain ⟨g1, g2⟩ := push_grown hdead.1 hlim (e := ty') (hvo.append hus) ((((carr.toList.drop (bi.base + o)).take (l * ei.size)) ++ us).toArray ++ Builtin.zeroCells z'.cells (grownCap w (l + n) c ty' - (l + n))) (rest := (Builtin.zeroCells z'.cells (grownCap w (l + n) c ty' - (l + n))).toList) (by simp)
                            refine ⟨_, _, hrun, _, ?_, g1, hdead.2.trans g2⟩
                            refine .slu (off := 0) (M.set_self _ _ _) ?_ hcap hcapm
                            rw [Nat.zero_add]
                            exact Nat.le_of_eq (htop _ l _ hol hcap).symm
                        · cases h
                      · cases h
                  case sluz b bi hb o esz a =>
                    split at h
                    · cases h
                    · split at h
                      · rename_i ty' cs hg
                        split at h
                        · rename_i hcond
                          obtain ⟨rfl, rfl, hfit, hq0⟩ := hcond
                          cases h
                          have hbn : b < H.n := Heap.lt_of_get (fun e => by rw [hg] at e; cases e)
                          have hdead := hH.kill hbn hlim
                          have hul : us.length = n * ei.size := by rw [← hus.length]; exact hnl
                          have hold : ∀ w', w'.heap = w.heap → (Builtin.firstCells ei.size 0 (.slice (some a) 0 0)).run P w' = .ok ([] : List Value).toArray w' := fun w' e => by
                            simp [Builtin.firstCells, loadCells, loadCellsFrom]
                          by_cases hn0 : n = 0
                          · subst hn0
                            have hus0 : us = [] := List.eq_nil_of_length_eq_zero (by omega)
                            subst hus0
                            have hnew0 : new = [] := List.eq_nil_of_length_eq_zero (by rw [hus.length]; rfl)
                            subst hnew0
                            obtain ⟨hlt, carr, fz, hw, htp, hlen, hvs, hfz⟩ := hH.cells hg hb
                            have hz0 : (cs.drop o).take (0 * ei.size) ++ [] = [] := by simp
                            rw [hz0]
                            obtain ⟨g1, g2⟩ := hH.move (w' := w) hlim (b := b) (bi := bi) (bi' := bi) (blk := .cells true ty' []) (by rw [hg]; rfl) hb rfl ⟨rfl, rfl, rfl⟩ rfl (fun _ _ => rfl) ⟨carr, fz, hw, htp, Nat.zero_le _, .nil, hfz, hH.base hg hb⟩
                            exact ⟨.slice (some a) 0 0, w, append_room h1 h2 hsrc ty a 0 0 (Nat.le_refl _) (by simp [storeCells]), _, .sluz (M.set_self _ _ _) _ _ _, g1, g2⟩
                          · have hrun := run_append_grow_src (P := P) w t tx ty ty' tj z' h1 h2 hz (some a) 0 0 [] (by rw [h3]; exact hold w.drew rfl) x' n us hsrc (by omega) (by omega) (hb48 0 0 (by omega) (by omega))
                            have hcap : 0 + n ≤ grownCap w (0 + n) 0 ty' := by unfold grownCap; exact Nat.le_add_right _ _
                            have hcapm : grownCap w (0 + n) 0 ty' ≤ maxLen := Go.grownCap_le_maxLen _ _ _ _ (by unfold maxLen; omega)
                            have hz0 : (cs.drop o).take (0 * ei.size) = [] := by simp
                            rw [hz0]
                            obtain ⟨g1, g2⟩ := push_grown hdead.1 hlim (e := ty') (All2.append .nil hus) ((([] : List Value) ++ us).toArray ++ Builtin.zeroCells z'.cells (grownCap w (0 + n) 0 ty' - (0 + n))) (rest := (Builtin.zeroCells z'.cells (grownCap w (0 + n) 0 ty' - (0 + n))).toList) (by simp)
                            refine ⟨_, _, hrun, _, ?_, g1, hdead.2.trans g2⟩
                            refine .slu (off := 0) (M.set_self _ _ _) ?_ hcap hcapm
                            rw [Nat.zero_add]
                            exact Nat.le_of_eq (htop [] 0 _ (by simp) hcap).symm
                        · cases h
                      · cases h
              · cases h
          · cases h
      · cases h
    · cases h
  · cases h
end Go.PI
namespace Go.PI
variable {P : Program} {C : Ctx} {μ : M}
theorem lies_self {u : TypeId} {ui : TypeInfo} (h : P.info? u = some ui) (hs : ui.size ≠ 0) {off n count : Nat} (hr : off % ui.size = 0) (hc : off / ui.size + n ≤ count) : liesAt P P.depth u count off u n = true := by
  have hrow : rowAt P (sameLayout P P.depth · u) P.depth u count off n = true := by
    show rowAt P (sameLayout P (2 * (P.types.size + Made.depth) + 1 + 1) · u) (2 * (P.types.size + Made.depth) + 1 + 1) u count off n = true
    simp only [rowAt, Program.cellsOf, h, Option.map_some, Option.getD_some, if_neg hs, hr, sameLayout, beq_self_eq_true, Bool.true_and, Bool.and_true, Bool.true_or, Bool.or_eq_true]
    left; simpa using hc
  show liesAt P (2 * (P.types.size + Made.depth) + 1 + 1) u count off u n = true
  simp only [liesAt, hrow, Bool.true_or]
theorem run_shape_cells {w : World} {c : Nat} {carr : Array Value} {ty : TypeId} {fz : Nat × Nat} (h : w.heap[c]? = some (.cells carr ty fz)) : w.shape? c = some (ty, carr.size) := by simp [World.shape?, h]
theorem run_viewAt {w : World} {c : Nat} {carr : Array Value} {ty : TypeId} {fz : Nat × Nat} (h : w.heap[c]? = some (.cells carr ty fz)) : (viewAt c).run P w = .ok none w := by
  simp [viewAt, run_shape_cells h]
theorem run_seenAt {w : World} {a : Addr} {carr : Array Value} {ty : TypeId} {fz : Nat × Nat} (h : w.heap[a.block]? = some (.cells carr ty fz)) : (Conv.seenAt a).run P w = .ok a w := by
  simp [Conv.seenAt, run_viewAt h]
theorem toUnsafe {s d t : TypeId} {ti : TypeInfo} (h1 : P.underlying s = some (.pointer t)) (h2 : P.underlying d = some .unsafePointer) (h3 : P.info? t = some ti) (hs : ti.size ≠ 0) {w : World} {c o : Nat} {carr : Array Value} {ty : TypeId} {fz : Nat × Nat} (h : w.heap[c]? = some (.cells carr ty fz)) (ho : o < carr.size) :
    (Go.convert s d (.pointer (some ⟨c, o, none⟩))).run P w = .ok (.pointer (some ⟨c, o, none⟩)) w := by
  have hv := run_seenAt (P := P) (a := ⟨c, o, none⟩) h
  have hcells : (cellsIn c).run P w = .ok (some carr.size) w := by simp [cellsIn, run_shape_cells h]
  simp only [Go.convert, Sem.run_bind, run_und h1, run_und h2, Result.andThen_ok, Conv.unsafePointer, hv, hcells, run_size h3]
  simp [hs, show ¬ carr.size ≤ o by omega]
theorem ofUnsafe {s d u : TypeId} {ui : TypeInfo} (h1 : P.underlying s = some .unsafePointer) (h2 : P.underlying d = some (.pointer u)) (h3 : P.info? u = some ui) (hs : ui.size ≠ 0) {w : World} {c o : Nat} {carr : Array Value} {fz : Nat × Nat} (h : w.heap[c]? = some (.cells carr u fz)) (hr : o % ui.size = 0) (ho : o + ui.size ≤ carr.size) :
    (Go.convert s d (.pointer (some ⟨c, o, none⟩))).run P w = .ok (.pointer (some ⟨c, o, none⟩)) w := by
  have hv := run_seenAt (P := P) (a := ⟨c, o, none⟩) h
  have hl : (variablesAt ⟨c, o, none⟩ u 1).run P w = .ok true w := by
    simp only [variablesAt, Sem.run_bind, run_program, run_shape, Result.andThen_ok, run_shape_cells h, Sem.run_pure]
    rw [lies_self h3 hs hr]
    simp only [Program.cellsOf, h3, Option.map_some, Option.getD_some]
    have : (o + ui.size) / ui.size ≤ carr.size / ui.size := Nat.div_le_div_right ho
    rw [Nat.add_div_right _ (by omega)] at this
    exact this
  simp only [Go.convert, Sem.run_bind, run_und h1, run_und h2, Result.andThen_ok, Conv.unsafePointer, hv, run_size h3, hl]
  simp
theorem push_all : ∀ (bs : List UInt8) (acc : ByteArray), bs.foldl ByteArray.push acc = ⟨acc.data ++ bs.toArray⟩
  | [], acc => by simp
  | b :: bs, acc => by
    simp only [List.foldl_cons]
    rw [push_all bs]
    congr 1
    apply Array.ext'
    simp [ByteArray.push]
theorem run_loadBytes {w : World} {c : Nat} {carr : Array Value} {ty : TypeId} {fz : Nat × Nat} (h : w.heap[c]? = some (.cells carr ty fz)) : ∀ (n o : Nat) (acc : ByteArray) (as : List AV) (bs : List UInt8), VRs μ as ((carr.toList.drop o).take n) → bytesOf as = some bs → o + n ≤ carr.size →
    (loadBytes ⟨c, o, none⟩ acc n).run P w = .ok (bs.foldl ByteArray.push acc) w
  | 0, o, acc, as, bs, hv, hb, hl => by
    simp at hv; cases hv
    simp [bytesOf] at hb; subst hb
    rfl
  | n + 1, o, acc, as, bs, hv, hb, hl => by
    have ho : o < carr.toList.length := by simp; omega
    rw [List.drop_eq_getElem_cons ho, List.take_succ_cons] at hv
    cases hv with
    | @cons a _ as' _ h1 h2 =>
      unfold bytesOf at hb
      split at hb
      · rename_i e; cases e
      · rename_i m r e
        cases e
        split at hb
        · rename_i bs' e'
          cases hb
          have hi := h1.int_inv
          have ih := run_loadBytes h n (o + 1) (acc.push m.toNat.toUInt8) _ bs' h2 e' (by omega)
          have hc : w.cell? ⟨c, o, none⟩ = some (.int .u8 m) := by
            rw [cellAt h]
            simp at hi
            rw [Array.getElem?_eq_getElem (by omega), hi]
          simp only [loadBytes, Sem.run_bind, run_load, hc, Result.andThen_ok, add_same, ih, List.foldl_cons]
        · cases hb
      · cases hb
theorem run_unsafeString {pt u : TypeId} {ui pi : TypeInfo} {r : List TypeId} {ty : TypeId} (h1 : P.underlying pt = some (.pointer u)) (h3 : P.info? u = some ui) (hs : ui.size = 1) {w : World} {c o n : Nat} {carr : Array Value} {fz : Nat × Nat} (h : w.heap[c]? = some (.cells carr u fz))
    (hn0 : 0 < n) (hn : n ≤ 1073741824) (ho : o + n ≤ carr.size) {as : List AV} {bs : List UInt8} (hv : VRs μ as ((carr.toList.drop o).take n)) (hb : bytesOf as = some bs) :
    (Builtin.unsafeString_ ⟨pt :: r⟩ ty #[.pointer (some ⟨c, o, none⟩), .int .i64 (n : Int)]).run P w = .ok (.string ⟨bs.toArray⟩) (w.freeze ⟨c, o, none⟩ n) := by
  have hl : (variablesAt ⟨c, o, none⟩ u n).run P w = .ok true w := by
    simp only [variablesAt, Sem.run_bind, run_program, run_shape, Result.andThen_ok, run_shape_cells h, Sem.run_pure]
    rw [lies_self h3 (by omega) (by rw [hs]; exact Nat.mod_one _)]
    simp only [Program.cellsOf, h3, Option.map_some, Option.getD_some, hs, Nat.div_one]
    exact ho
  have hlb := run_loadBytes (P := P) h n o .empty as bs hv hb ho
  have he : (elemOf pt).run P w = .ok u w := by simp [elemOf, run_und h1]
  rw [push_all] at hlb
  have hneg : ¬ ((n : Int) < 0) := by omega
  have hbig : ¬ ((n : Int) > IntKind.i64.max) := by simp [IntKind.max, IntKind.signed, IntKind.bits]; omega
  have hz : ¬ ((n : Int) = 0) := by omega
  have key : ∃ s1 s2 s3 : String, Builtin.unsafeString_ ⟨pt :: r⟩ ty #[.pointer (some ⟨c, o, none⟩), .int .i64 (n : Int)] = (do
    let n' ← asInt (.int .i64 (n : Int))
    if n' < 0 then runtimePanic (.error s1)
    if n' > IntKind.i64.max then unsupported (.unsafePointer s2)
    if n' = 0 then pure (.string .empty)
    else if ← variablesAt ⟨c, o, none⟩ (← elemOf pt) n'.toNat then do
      let s ← loadBytes ⟨c, o, none⟩ .empty n'.toNat
      freeze ⟨c, o, none⟩ n'.toNat
      pure (.string s)
    else unsupported (.unsafePointer s3) : Sem Value) := ⟨_, _, _, rfl⟩
  obtain ⟨s1, s2, s3, key⟩ := key
  rw [key]
  simp only [asInt, asIntOf, Sem.run_bind, Sem.run_pure, Result.andThen_ok, if_neg hneg, if_neg hbig, if_neg hz, he, Int.toNat_natCast, hl, if_true, hlb, run_freeze]
  simp [ByteArray.empty, ByteArray.emptyWithCapacity]
  rfl
theorem bytesOf_ns : ∀ {as : List AV} {bs : List UInt8}, bytesOf as = some bs → ∃ ns : List Int, as = ns.map (AV.int .u8) ∧ bs = ns.map fun n => UInt8.ofNat n.toNat
  | [], bs, h => by cases h; exact ⟨[], rfl, rfl⟩
  | a :: as, bs, h => by
    unfold bytesOf at h
    split at h
    · rename_i e; cases e
    · rename_i n r e
      cases e
      split at h
      · rename_i bs' hb
        cases h
        obtain ⟨ns, rfl, rfl⟩ := bytesOf_ns hb
        exact ⟨n :: ns, rfl, rfl⟩
      · cases h
    · cases h
theorem vrs_ns : ∀ {ns : List Int} {vs : List Value}, VRs μ (ns.map (AV.int .u8)) vs → vs = ns.map (Value.int .u8)
  | [], _, h => by cases h; rfl
  | n :: ns, _, h => by
    cases h with
    | cons h1 h2 => rw [h1.int_inv, vrs_ns h2]; rfl
theorem run_b2s {s d e : TypeId} {w : World} {c o l cap : Nat} {carr : Array Value} {ty : TypeId} {fz : Nat × Nat} (hs : P.underlying s = some (.slice e)) (he : P.underlying e = some (.int .u8)) (hd : P.underlying d = some .string) (h : w.heap[c]? = some (.cells carr ty fz))
    {as : List AV} {bs : List UInt8} (hv : VRs μ as ((carr.toList.drop o).take l)) (hb : bytesOf as = some bs) (hl : o + l ≤ carr.size) : (Go.convert s d (.slice (some ⟨c, o, none⟩) l cap)).run P w = .ok (.string ⟨bs.toArray⟩) w := by
  obtain ⟨ns, rfl, rfl⟩ := bytesOf_ns hb
  rw [run_convert_bytes_string w s d e _ l cap hs he hd, run_bytesToString w _ l cap ns (by rw [loadCells_sim h hl, vrs_ns hv])]
  congr 2
  have hf : ∀ (ns : List Int) (acc : ByteArray), ns.foldl (fun r n => r.push (UInt8.ofNat n.toNat)) acc = (ns.map fun n => UInt8.ofNat n.toNat).foldl ByteArray.push acc := fun ns => by
    induction ns with
    | nil => intro acc; rfl
    | cons n ns ih => intro acc; simp only [List.foldl_cons, List.map_cons]; exact ih _
  rw [hf, push_all]
  simp
end Go.PI
namespace Go.PI
variable {P : Program} {C : Ctx} {μ : M}
def RdR (μ : M) (rd : Option Nat) (F : Fence) : Prop := match rd with
  | none => F.round = none
  | some l => ∃ bi, μ l = some bi ∧ F.round = some bi.c
def DefR (μ : M) (D : List Nat) (ds : List Deferred) : Prop := All2 (fun A d => ∃ bi, μ A = some bi ∧ d = { target := .collected bi.c, args := #[] }) D ds
structure StR (μ : M) (s : St) (a : Act) (w : World) : Prop where
  T : VRs μ s.T a.tmps.toList
  D : DefR μ s.D a.defers
  H : HR μ s.H w
def exR : Ex → Exit
  | .normal => .normal
  | .exit id => .exit id
  | .goto l => .goto l
  | .ret => .ret
def SimPost (μ : M) (s : St) (w : World) (e : Ex) (s' : St) (e' : Exit) (a' : Act) (w' : World) : Prop := e' = exR e ∧ ∃ μ', StR μ' s' a' w' ∧ Fr μ s.H w μ' s'.H w'
def IhOk (P : Program) (ih : Ih) : Prop := ∀ rd c s e s', ih rd c s = some (e, s') → ∀ (F : Fence) (n : Nat), Wd F → ∀ μ a w, RdR μ rd F → StR μ s a w → c.wpIn F n P (SimPost μ s w e s') a w
theorem DefR.mono {μ ν : M} (h : M.le μ ν) {D : List Nat} {ds : List Deferred} (k : DefR μ D ds) : DefR ν D ds := All2.mono' (fun _ _ ⟨bi, h1, h2⟩ => ⟨bi, h _ _ h1, h2⟩) k
theorem undefR : VR μ undefA undef := .tup .nil
theorem shut_sim {F : Fence} {n : Nat} {fn : Func} {tmps : Array Value} {R : Ending → World → Prop} : ∀ {D : List Nat} {ds : List Deferred} {H H' : Heap} {w : World}, shutMarks D H = some H' → DefR μ D ds → HR μ H w →
    (∀ w', HR μ H' w' → Fr μ H w μ H' w' → LeavesInM F n P fn tmps R [] .returning w') → LeavesInM F n P fn tmps R ds .returning w
  | [], _, H, H', w, h, hd, hH, k => by
    cases hd; simp [shutMarks] at h; subst h; exact k w hH (Fr.refl _ _ _)
  | A :: D, _, H, H', w, h, hd, hH, k => by
    cases hd with
    | @cons _ d _ ds hb hd =>
      obtain ⟨bi, hm, rfl⟩ := hb
      unfold shutMarks at h
      split at h
      · rename_i hg
        have hb := (hH.blk A bi (by rw [hg]; rfl) hm)
        rw [hg] at hb
        obtain ⟨hlt, hb⟩ := hb
        have hs := hH.set (w' := w.putObj bi.c (.deferred none)) (blk := .dead) (by rw [hg]; rfl) hm ⟨rfl, rfl, rfl⟩ (by simp) (fun k hk => World.putObj_heap_other hk) trivial
        refine ⟨by simp, .inl ⟨bi.c, _, rfl, run_takeDeferred hb, ?_⟩⟩
        exact shut_sim h hd hs.1 fun w' h1 h2 => k w' h1 (hs.2.trans h2)
      · cases h
theorem getD_sim {T : List AV} {vs : Array Value} (h : VRs μ T vs.toList) (t : Nat) : VR μ (T.getD t undefA) (vs.getD t undef) := by
  cases e : T[t]? with
  | none =>
    have e' := h.get_none e
    have h1 : T.getD t undefA = undefA := by simp [List.getD, e]
    have h2 : vs.getD t undef = undef := by
      have : vs[t]? = none := by simpa using e'
      simp [Array.getD_eq_getD_getElem?, this]
    rw [h1, h2]; exact undefR
  | some a =>
    obtain ⟨v, hv, hr⟩ := h.get e
    have h1 : T.getD t undefA = a := by simp [List.getD, e]
    have h2 : vs.getD t undef = v := by
      have : vs[t]? = some v := by simpa using hv
      simp [Array.getD_eq_getD_getElem?, this]
    rw [h1, h2]; exact hr
theorem results_sim (hC : Ctx.Ok P C) {T : List AV} {tmps : Array Value} {H : Heap} {w : World} (hT : VRs μ T tmps.toList) (hH : HR μ H w) : ∀ {rs : List ResultVar} {vs : List AV}, resultsE C T H rs = some vs →
    ∃ us : List Value, (rs.mapM fun | .tmp t => pure (tmps.getD t undef) | .cell a t => do loadVar t (← asAddr (tmps.getD a undef)) : Sem (List Value)).run P w = .ok us w ∧ VRs μ vs us
  | [], vs, h => by simp [resultsE] at h; subst h; exact ⟨[], rfl, .nil⟩
  | .tmp t :: r, vs, h => by
    unfold resultsE at h
    split at h
    · rename_i vs' e
      cases h
      obtain ⟨us, hr, hv⟩ := results_sim hC hT hH e
      refine ⟨tmps.getD t undef :: us, ?_, .cons (getD_sim hT t) hv⟩
      simp only [List.mapM_cons, Sem.run_bind, Sem.run_pure, Result.andThen_ok]
      rw [hr]; rfl
    · cases h
  | .cell a t :: r, vs, h => by
    unfold resultsE at h
    split at h
    · rename_i v vs' e1 e2
      cases h
      obtain ⟨us, hr, hv⟩ := results_sim hC hT hH e2
      obtain ⟨u, hu, hvu⟩ := loadE_sim hC hH e1 (getD_sim hT a)
      refine ⟨u :: us, ?_, .cons hvu hv⟩
      have hl : (do loadVar t (← asAddr (tmps.getD a undef)) : Sem Value).run P w = .ok u w := by
        have hp : ∃ ad, tmps.getD a undef = .pointer (some ad) := by
          have := getD_sim hT a
          unfold loadE at e1
          split at e1
          · rename_i b o hpt
            rw [hpt] at this
            obtain ⟨bi, -, e⟩ := this.ptr_inv
            exact ⟨_, e⟩
          · cases e1
        obtain ⟨ad, hp⟩ := hp
        rw [hp] at hu ⊢
        simpa [Instr.loadAt, Instr.sureAddr, asAddr] using hu
      simp only [List.mapM_cons, Sem.run_bind, Sem.run_pure, Result.andThen_ok] at hl ⊢
      rw [hl]
      simp only [Result.andThen_ok]
      rw [hr]; rfl
    · cases h
def retOf : List AV → AV
  | [v] => v
  | vs => .tup vs
theorem results_run (hC : Ctx.Ok P C) {T : List AV} {a : Array Value} {H : Heap} {w : World} (hT : VRs μ T a.toList) (hH : HR μ H w) {fn : Func} {rs : List ResultVar} (hr : fn.results.toList = rs) {vs : List AV} (h : resultsE C T H rs = some vs) :
    ∃ u, (results fn a).run P w = .ok u w ∧ VR μ (retOf vs) u := by
  obtain ⟨us, hu, hv⟩ := results_sim hC hT hH h
  have hm : (fn.results.mapM fun | .tmp t => pure (a.getD t undef) | .cell a' t => do loadVar t (← asAddr (a.getD a' undef)) : Sem (Array Value)).run P w = .ok us.toArray w := by
    rw [Array.mapM_eq_mapM_toList, hr]
    simp only [Sem.run_map, hu, Result.andThen_ok]
  unfold results
  simp only [Sem.run_bind, Sem.run_pure]
  refine ⟨if h : us.toArray.size = 1 then us.toArray[0] else .tuple us.toArray, congrArg (fun r => Result.andThen r fun vs w' => .ok (if h : vs.size = 1 then vs[0] else .tuple vs) w') hm, ?_⟩
  cases hv with
  | nil => exact .tup .nil
  | cons h1 h2 =>
    cases h2 with
    | nil => simpa [retOf] using h1
    | cons h3 h4 => simpa [retOf] using VR.tup (xs := (_ :: _ :: _ : List Value).toArray) (.cons h1 (.cons h3 h4))
end Go.PI
