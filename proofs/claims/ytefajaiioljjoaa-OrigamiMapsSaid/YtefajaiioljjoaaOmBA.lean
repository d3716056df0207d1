/- Own work of the verifier: OgJ OgR OgS OgT OgU OgW. -/
import Derived.Test.YtefajaiioljjoaaOmAZ
import Derived.Test.YtefajaiioljjoaaOmAV
set_option linter.all false
set_option exponentiation.threshold 3000
set_option linter.deprecated false
/- COVERINGS: the checks whole; the law of proofs. -/
open Go.Proofs
namespace Go.PI
open IM
set_option maxRecDepth 10000
set_option maxHeartbeats 4000000
variable (S : FuncId → Option (List AV → Heap → Option (AV × Heap)))
section
variable {r u r2 u2 fs : List Int} {same : Bool}
theorem chkA_two : chkA [(r, u), (r2, u2)] = 0 ↔ chkO r u = 0 ∧ chkO r2 u2 = 0 := by
  show (if chkO r u ≠ 0 then chkO r u else chkA [(r2, u2)]) = 0 ↔ _
  rw [chkA_one]
  by_cases h : chkO r u = 0
  · rw [if_neg (fun e => e h)]; simp [h]
  · rw [if_pos h]; simp [h]
theorem chkA_fst (h : chkO r u ≠ 0) : chkA [(r, u), (r2, u2)] = chkO r u := by
  show (if chkO r u ≠ 0 then chkO r u else chkA [(r2, u2)]) = _
  rw [if_pos h]
theorem chkA_snd (h : chkO r u = 0) : chkA [(r, u), (r2, u2)] = chkO r2 u2 := by
  show (if chkO r u ≠ 0 then chkO r u else chkA [(r2, u2)]) = _
  rw [if_neg (fun e => e h), chkA_one]
theorem chkA_valid (h : chkA [(r, u), (r2, u2)] = 0) : ∃ n m f f' g g' F F' G G', IsO r u n f f' g g' ∧ IsO r2 u2 m F F' G G' := by
  obtain ⟨a, b⟩ := chkA_two.1 h
  obtain ⟨n, f, f', g, g', ho⟩ := chkO_ok a
  obtain ⟨m, F, F', G, G', ho2⟩ := chkO_ok b
  exact ⟨n, m, f, f', g, g', F, F', G, G', ho, ho2⟩
end
theorem check2_ct (hS : OldO S) {r u r2 u2 : List Int} (l1 : r.length ≤ 1000000) (l2 : u.length ≤ 1000000) (l3 : r2.length ≤ 1000000) (l4 : u2.length ≤ 1000000) : Ct (ctx.plus S) 63 [pOs [(r, u), (r2, u2)]] 12 fun v => v = pn (chkA [(r, u), (r2, u2)]) :=
  checkAll_ct S hS (L := [(r, u), (r2, u2)]) (by simp) (fun p hp => by
    rcases List.mem_cons.1 hp with rfl | hp
    · exact ⟨l1, l2⟩
    · rw [List.mem_singleton.1 hp]; exact ⟨l3, l4⟩)
theorem fn35 : ctx.fn 35 = some c35 := by kernel_rfl
theorem size_ct (hS : OldO S) {r u : List Int} : Ct (ctx.plus S) 35 [pO r u] 1 fun v => v = pn r.length := by
  refine ct_of (hS 35 (by decide)) fn35 ?_
  refine ⟨by omega, ?_⟩
  refine ⟨_, rfl, ?_⟩
  exact endq rfl rfl
theorem fn79 : ctx.fn 79 = some c79 := by kernel_rfl
theorem isMap_ct (hS : OldO S) {r u r2 u2 fs : List Int} {n m : Nat} {f f' g g' F F' G G' h : Nat → Nat} (ho : IsO r u n f f' g g') (ho2 : IsO r2 u2 m F F' G G') (hf : IsF fs n m h) :
    Ct (ctx.plus S) 79 [pO r u, pO r2 u2, pIs fs] 100 fun v => (Keeps n h f g F G ∧ v = .bool true) ∨ (¬ Keeps n h f g F G ∧ v = .bool false) := by
  have hfl : fs.length = n := by rw [hf.eq, PL_len]
  have hget : ∀ i, i < n → fs[i]? = some (h i : Int) := fun i hi => by rw [hf.eq, PL_get hi]
  have hn := ho.le
  have hm := ho2.le
  obtain ⟨a1, a2⟩ := ho.l1
  obtain ⟨a3, a4⟩ := ho2.l1
  have gr : ∀ i, i < n → r[i]? = some (f i : Int) := fun i hi => by rw [ho.hr, PL_get hi]
  have gu : ∀ i, i < n → u[i]? = some (g i : Int) := fun i hi => by rw [ho.hu, PL_get hi]
  have gr2 : ∀ i, i < m → r2[i]? = some (F i : Int) := fun i hi => by rw [ho2.hr, PL_get hi]
  have gu2 : ∀ i, i < m → u2[i]? = some (G i : Int) := fun i hi => by rw [ho2.hu, PL_get hi]
  refine ct_of (hS 79 (by decide)) fn79 ?_
  refine ⟨by omega, by omega, ?_⟩
  refine ⟨fun q s => ∃ (i : Nat) (T : List PV), s = ⟨T, [.live 24 [pIs r, pIs u], .live 24 [pIs r2, pIs u2]], 2 + i⟩ ∧ Gt T 50 [(2, pIs fs), (3, .optr 0 0), (4, .optr 1 0), (7, pn i)] ∧ q = n - i ∧ i ≤ n ∧ Hid (Keeps i h f g F G), ⟨_, ci ⟨0, _, rfl, ⟨rfl, rfl, rfl, rfl, rfl, trivial⟩, rfl, Nat.zero_le _, ⟨fun x hx => by omega⟩⟩⟩, ?_⟩
  rintro _ s ⟨i, T, rfl, hT, rfl, hi, hk⟩
  obtain ⟨J, rfl⟩ := gt_open hT
  clear hT
  refine ⟨_, rfl, ?_⟩
  refine callq rfl (size_ct S hS) (by omega) ?_
  rintro _ rfl
  refine ⟨fun hlt => ?_, fun hge => ?_⟩
  · have hin : i < n := by omega
    have c1 := ho.pr.lt i hin
    have c2 := ho.pu.lt i hin
    have c3 := hf.lt i hin
    refine ⟨by kernel_rfl, ?_⟩
    refine ⟨_, rfl, rfl, ?_⟩
    refine ⟨⟨⟨by omega, by omega⟩, len_map_le (by omega)⟩, ?_⟩
    refine ⟨_, ld (at_map (gr i hin)) (by show _ * 1 = i; omega), rfl, ?_⟩
    refine ⟨⟨⟨by omega, by omega⟩, len_map_le (by omega)⟩, ?_⟩
    refine ⟨_, ld (at_map (hget (f i) c1)) (by show _ * 1 = f i; omega), rfl, ?_⟩
    refine ⟨_, rfl, rfl, ?_⟩
    refine ⟨⟨⟨by omega, by omega⟩, len_map_le (by omega)⟩, ?_⟩
    refine ⟨_, ld (at_map (hget i hin)) (by show _ * 1 = i; omega), rfl, ?_⟩
    refine ⟨⟨⟨by omega, by omega⟩, len_map_le (by omega)⟩, ?_⟩
    refine ⟨_, ld (at_map (gr2 (h i) c3)) (by show _ * 1 = h i; omega), rfl, ?_⟩
    refine ⟨fun h1 => ?_, fun h1 => ?_⟩
    · exact endq rfl (.inr ⟨fun hc => h1 (by have := (hc i hin).1; omega), rfl⟩)
    refine ⟨_, rfl, rfl, ?_⟩
    refine ⟨⟨⟨by omega, by omega⟩, len_map_le (by omega)⟩, ?_⟩
    refine ⟨_, ld (at_map (gu i hin)) (by show _ * 1 = i; omega), rfl, ?_⟩
    refine ⟨⟨⟨by omega, by omega⟩, len_map_le (by omega)⟩, ?_⟩
    refine ⟨_, ld (at_map (hget (g i) c2)) (by show _ * 1 = g i; omega), rfl, ?_⟩
    refine ⟨_, rfl, rfl, ?_⟩
    refine ⟨⟨⟨by omega, by omega⟩, len_map_le (by omega)⟩, ?_⟩
    refine ⟨_, ld (at_map (hget i hin)) (by show _ * 1 = i; omega), rfl, ?_⟩
    refine ⟨⟨⟨by omega, by omega⟩, len_map_le (by omega)⟩, ?_⟩
    refine ⟨_, ld (at_map (gu2 (h i) c3)) (by show _ * 1 = h i; omega), rfl, ?_⟩
    refine ⟨fun h2 => ?_, fun h2 => ?_⟩
    · exact endq rfl (.inr ⟨fun hc => h2 (by have := (hc i hin).2; omega), rfl⟩)
    refine ⟨⟨by omega, by omega⟩, ?_⟩
    exact ⟨_, by omega, ci ⟨i + 1, _, rfl, ⟨rfl, rfl, rfl, rfl, rfl, trivial⟩, rfl, by omega, ⟨fun x hx => by
      by_cases hxi : x = i
      · subst hxi; omega
      · exact hk.h x (by omega)⟩⟩⟩
  · have hin : i = n := by omega
    subst hin
    exact endq rfl (.inl ⟨hk.h, rfl⟩)
end Go.PI
/- NUMBERINGS of squares, in a store of our own. -/
open Go.Proofs
namespace Go.PI
open IM
set_option maxRecDepth 10000
set_option maxHeartbeats 4000000
variable (S : FuncId → Option (List AV → Heap → Option (AV × Heap)))
def pnn (i : Nat) : PV := pn (i : Int)
def Onum : Opn := ⟨fun t => Nat.beq t 116, fun t => Nat.beq t 116 || Nat.beq t 22, false⟩
structure Num (σ : List StB) (j m : Nat) (v : PV) (xs : List Nat) : Prop where
  liv : σ[j]? = some (.liv 116 [v, .omap m])
  gr : Gr pnn 3 v σ xs
  mp : ∃ es, σ[m]? = some (.mp .i64 es) ∧ ∀ y : Nat, pmapGet es y = if y ∈ xs then some (pnn (xs.idxOf y)) else none
  ne : xs ≠ []
  jv : blkOf v ≠ some j
  mv : blkOf v ≠ some m
  jm : m ≠ j
  lv : ∃ jv, blkOf v = some jv ∧ σ[jv]? = some (.live 3 (xs.map pnn))
structure NF (σ σ' : List StB) (j m : Nat) (v v' : PV) : Prop where
  len : σ.length ≤ σ'.length
  keep : ∀ (i : Nat) (b : StB), i ≠ j → i ≠ m → blkOf v ≠ some i → σ[i]? = some b → σ'[i]? = some b
  blk : ∀ i, i < σ.length → blkOf v ≠ some i → blkOf v' ≠ some i
theorem NF.refl (σ : List StB) (j m : Nat) (v : PV) : NF σ σ j m v v := ⟨Nat.le_refl _, fun _ _ _ _ _ h => h, fun _ _ h => h⟩
theorem NF.trans {σ σ' σ'' : List StB} {j m : Nat} {v v' v'' : PV} (a : NF σ σ' j m v v') (b : NF σ' σ'' j m v' v'') : NF σ σ'' j m v v'' :=
  ⟨Nat.le_trans a.len b.len, fun i x h1 h2 h3 h4 => b.keep i x h1 h2 (a.blk i (List.getElem?_eq_some_iff.1 h4).1 h3) (a.keep i x h1 h2 h3 h4), fun i hi h => b.blk i (Nat.lt_of_lt_of_le hi a.len) (a.blk i hi h)⟩
theorem Gr.shape {α : Type} {f : α → PV} {e : TypeId} {v : PV} {σ : List StB} {Xs : List α} (h : Gr f e v σ Xs) (hne : Xs ≠ []) : ∃ jv ty, contOf σ jv = some (ty, Xs.map f) ∧ (v = .own jv 0 Xs.length Xs.length 1 ∨ v = .ownu jv Xs.length 1) := by
  rcases h with ⟨-, h⟩ | ⟨j, ty, rfl, h⟩ | ⟨j, rfl, h⟩
  · exact absurd h hne
  · exact ⟨j, ty, h, .inl rfl⟩
  · exact ⟨j, e, contOf_live h, .inr rfl⟩
theorem Gr.cell {α : Type} {f : α → PV} {e : TypeId} {v : PV} {σ : List StB} {Xs : List α} (h : Gr f e v σ Xs) : v.pcells = [v] ∧ v.one = true := by
  rcases h with ⟨rfl, h⟩ | ⟨j, ty, rfl, h⟩ | ⟨j, rfl, h⟩ <;> exact ⟨rfl, rfl⟩
theorem get_set_map {es : List (Int × PV)} {n k : Int} {v : PV} : pmapGet (pmapSet es n v) k = if k = n then some v else pmapGet es k := by
  induction es with
  | nil =>
    unfold pmapSet pmapGet
    by_cases h : k = n
    · subst h; simp
    · rw [if_neg h]
      have : (n == k) = false := by simpa using fun e => h e.symm
      rw [this]
      rfl
  | cons e es ih =>
    obtain ⟨k0, x⟩ := e
    unfold pmapSet
    cases hb : k0 == n with
    | true =>
      have : k0 = n := by simpa using hb
      subst this
      show pmapGet ((k0, v) :: es) k = _
      unfold pmapGet
      by_cases h : k = k0
      · subst h; simp
      · have : (k0 == k) = false := by simpa using fun e => h e.symm
        rw [this, if_neg h]
    | false =>
      show pmapGet ((k0, x) :: pmapSet es n v) k = _
      unfold pmapGet
      cases hk : k0 == k with
      | true =>
        have : k0 = k := by simpa using hk
        subst this
        have hne : k0 ≠ n := by simpa using hb
        rw [if_neg hne]
      | false => exact ih
theorem idx_new {xs : List Nat} {x : Nat} (h : x ∉ xs) : (xs ++ [x]).idxOf x = xs.length := by
  rw [List.idxOf_append, if_neg h]; simp
theorem idx_old {xs : List Nat} {x y : Nat} (h : y ∈ xs) : (xs ++ [x]).idxOf y = xs.idxOf y := by rw [List.idxOf_append, if_pos h]
theorem fn106 : ctx.fn 106 = some c106 := by kernel_rfl
theorem numberingFrom_cm (hS : OldO S) {σ : List StB} {x : Nat} : Cm (ctx.plus S) 106 [pnn x] σ 3 fun r σ' => ∃ j m v, r = .optr j 0 ∧ Num σ' j m v [x] ∧ (∀ (i : Nat) (b : StB), σ[i]? = some b → σ'[i]? = some b) ∧ σ.length ≤ j ∧ σ.length ≤ m ∧ (∀ i, i < σ.length → blkOf v ≠ some i) := by
  refine cm_of Onum (hS 106 (by decide)) fn106 fun c k0 hc => ?_
  refine ⟨by omega, part1 fzI ⟨[pnn x], rfl, ?_⟩⟩
  refine ⟨by omega, ?_⟩
  refine ⟨[], _, ⟨rfl, push_get⟩, rfl, _, push_set, ?_⟩
  refine ⟨_, rfl, ?_⟩
  refine ⟨by omega, ?_⟩
  refine endm [] (by dsimp only; omega) ?_
  have l1 : (σ ++ [StB.live 3 [pnn x]]).length = σ.length + 1 := by simp
  have l2 : ∀ B, (σ ++ [StB.live 3 [pnn x]] ++ [B]).length = σ.length + 2 := fun B => by simp
  refine ⟨_, _, _, rfl, ⟨push_get, .inr (.inl ⟨σ.length, 3, rfl, ?_⟩), ⟨[((x : Int), pn 0)], push_old (by exact push_get), fun y => ?_⟩, (by simp), ?_, ?_, ?_, ⟨σ.length, rfl, push_old (push_old push_get)⟩⟩, fun i b hb => push_old (push_old (push_old hb)), ?_, ?_, fun i hi => ?_⟩
  · exact contOf_app (contOf_app push_cont)
  · unfold pmapGet
    by_cases h : x = y
    · subst h; simp [pnn]
    · have : ((x : Int) == (y : Int)) = false := by simp; omega
      rw [this, if_neg (by simp; exact fun e => h e.symm)]
      rfl
  · show some σ.length ≠ some _
    rw [l2]; intro e; have := Option.some.inj e; omega
  · show some σ.length ≠ some _
    rw [l1]; intro e; have := Option.some.inj e; omega
  · rw [l1, l2]; omega
  · rw [l2]; omega
  · rw [l1]; omega
  · show some σ.length ≠ some i
    intro e; have := Option.some.inj e; omega
theorem addL_in {xs : List Nat} {x : Nat} (h : x ∈ xs) : addL xs x = xs := by unfold addL; rw [if_pos h]
theorem addL_out {xs : List Nat} {x : Nat} (h : x ∉ xs) : addL xs x = xs ++ [x] := by unfold addL; rw [if_neg h]
theorem fn107 : ctx.fn 107 = some c107 := by kernel_rfl
theorem number_cm (hS : OldO S) {σ : List StB} {j m : Nat} {v : PV} {xs : List Nat} {x : Nat} (h : Num σ j m v xs) (hl : xs.length ≤ 1000) :
    Cm (ctx.plus S) 107 [.optr j 0, pnn x] σ 4 fun r σ' => ∃ v', r = pnn ((addL xs x).idxOf x) ∧ Num σ' j m v' (addL xs x) ∧ NF σ σ' j m v v' := by
  refine cm_of Onum (hS 107 (by decide)) fn107 fun c k0 hc => ?_
  obtain ⟨es, hes, hget⟩ := h.mp
  refine ⟨_, load_liv h.liv rfl rfl, ?_⟩
  refine ⟨es, ⟨rfl, hes⟩, fun w hw => ?_, fun hw => ?_⟩
  · have hx : x ∈ xs := Classical.byContradiction fun hc => by
      have e := (hget x).symm.trans hw
      rw [if_neg hc] at e; cases e
    have e := (hget x).symm.trans hw
    rw [if_pos hx] at e
    cases e
    exact endm [] (by dsimp only; omega) ⟨v, by rw [addL_in hx]; rfl, by rw [addL_in hx]; exact h, NF.refl _ _ _ _⟩
  · have hx : x ∉ xs := fun hc => by
      have e := (hget x).symm.trans hw
      rw [if_pos hc] at e; cases e
    have hjm : j ≠ m := fun e => h.jm e.symm
    have hjl := (List.getElem?_eq_some_iff.1 h.liv).1
    have hml := (List.getElem?_eq_some_iff.1 hes).1
    have h' := h
    obtain ⟨jv, ty, hcv, hv⟩ := h.gr.shape h.ne
    have key : ∀ (v' : PV) (σ' : List StB), Gr pnn 3 v' σ' (xs ++ [x]) → (∀ i b, blkOf v ≠ some i → (σ ++ [StB.live 3 [pnn x]])[i]? = some b → σ'[i]? = some b) → blkOf v' = some (σ ++ [StB.live 3 [pnn x]]).length → σ'[(σ ++ [StB.live 3 [pnn x]]).length]? = some (.live 3 ((xs ++ [x]).map pnn)) → 
        ∃ v2, pnn xs.length = pnn ((addL xs x).idxOf x) ∧ Num ((σ'.set j (.liv 116 [v', .omap m])).set m (.mp .i64 (pmapSet es x (pnn xs.length)))) j m v2 (addL xs x) ∧ NF σ ((σ'.set j (.liv 116 [v', .omap m])).set m (.mp .i64 (pmapSet es x (pnn xs.length)))) j m v v2 := by
      intro v' σ' hv' hkp hbv hlv
      have hb1 := hv'.blk hbv
      have hl1 : (σ ++ [StB.live 3 [pnn x]]).length = σ.length + 1 := by simp
      rw [hl1] at hbv hb1 hlv
      have hb2 : ∀ i, i ≤ σ.length → blkOf v' ≠ some i := fun i hi e => by
        rw [hbv] at e; have := Option.some.inj e; omega
      refine ⟨v', by rw [addL_out hx, idx_new hx], ⟨?_, ?_, ⟨pmapSet es x (pnn xs.length), ?_, fun y => ?_⟩, ?_, ?_, ?_, h.jm, ⟨σ.length + 1, hbv, by rw [List.getElem?_set_ne (by omega), List.getElem?_set_ne (by omega), addL_out hx]; exact hlv⟩⟩, ⟨?_, fun i b h1 h2 h3 h4 => ?_, fun i hi _ => hb2 i (by omega)⟩⟩
      · rw [List.getElem?_set_ne h.jm, List.getElem?_set_self (by omega)]
      · rw [addL_out hx]
        refine hv'.keep fun i b hi hb => ?_
        rw [hbv] at hi
        have := Option.some.inj hi
        rw [List.getElem?_set_ne (by omega), List.getElem?_set_ne (by omega)]
        exact hb
      · rw [List.getElem?_set_self (by rw [List.length_set]; omega)]
      · rw [get_set_map, addL_out hx]
        by_cases hy : (y : Int) = x
        · have : y = x := by omega
          subst this
          rw [if_pos rfl, if_pos (by simp), idx_new hx]
        · have hne : y ≠ x := by omega
          rw [if_neg hy, hget]
          by_cases hm : y ∈ xs
          · rw [if_pos hm, if_pos (by simp [hm]), idx_old hm]
          · rw [if_neg hm, if_neg (by simp [hm, hne])]
      · rw [addL_out hx]; simp
      · exact hb2 j (by omega)
      · exact hb2 m (by omega)
      · rw [List.length_set, List.length_set]; omega
      · rw [List.getElem?_set_ne (Ne.symm h2), List.getElem?_set_ne (Ne.symm h1)]
        exact hkp i b h3 (push_old h4)
    rcases hv with rfl | rfl
    all_goals
      refine ⟨_, load_liv h.liv rfl rfl, ?_⟩
      refine ⟨_, load_liv h.liv rfl rfl, ?_⟩
      refine ⟨by omega, part1 fzI ⟨[pnn x], rfl, ?_⟩⟩
      refine appGu (f := pnn) (e := 3) (y := x) h.gr.push push_cont rfl rfl rfl rfl (by kernel_rfl) rfl rfl (by omega) (by omega) fun σ' hlv hkp => ?_
      obtain ⟨v', hvd⟩ : ∃ v', PV.ownu (σ ++ [StB.live 3 [pnn x]]).length (xs ++ [x]).length 1 = v' := ⟨_, rfl⟩
      have hv' : Gr pnn 3 v' σ' (xs ++ [x]) := .inr (.inr ⟨_, hvd.symm, hlv⟩)
      have hbv' : blkOf v' = some (σ ++ [StB.live 3 [pnn x]]).length := by rw [← hvd]; rfl
      rw [hvd]
      have hpc := hv'.cell
      refine ⟨_, _, hkp j _ h.jv (push_old h.liv), ⟨by rw [hpc.1]; rfl, Nat.le_of_ble_eq_true rfl, by rw [hpc.1]; show (v'.one && true) = true; rw [hpc.2]; rfl⟩, [v', .omap m], by rw [hpc.1]; rfl, _, rfl, ?_⟩
      have hj' : j < σ'.length := (List.getElem?_eq_some_iff.1 (hkp j _ h.jv (push_old h.liv))).1
      refine ⟨_, load_liv (List.getElem?_set_self hj') rfl rfl, ?_⟩
      refine ⟨es, _, ⟨rfl, by rw [List.getElem?_set_ne hjm]; exact hkp m _ h.mv (push_old hes)⟩, rfl, _, rfl, ?_⟩
      exact endm [] (by dsimp only; omega) (key v' σ' hv' hkp hbv' hlv)
end Go.PI
/- NUMBERINGS: the squares around one. -/
open Go.Proofs
namespace Go.PI
open IM
set_option maxRecDepth 10000
set_option maxHeartbeats 4000000
variable (S : FuncId → Option (List AV → Heap → Option (AV × Heap)))
theorem Num.push {σ : List StB} {j m : Nat} {v : PV} {xs : List Nat} {b : StB} (h : Num σ j m v xs) : Num (σ ++ [b]) j m v xs := by
  obtain ⟨es, hes, hg⟩ := h.mp
  obtain ⟨jv, hj, hl⟩ := h.lv
  exact ⟨push_old h.liv, h.gr.push, ⟨es, push_old hes, hg⟩, h.ne, h.jv, h.mv, h.jm, ⟨jv, hj, push_old hl⟩⟩
theorem Num.keep {σ σ' : List StB} {j m : Nat} {v : PV} {xs : List Nat} (h : Num σ j m v xs) (k : ∀ i b, (i = j ∨ i = m ∨ blkOf v = some i) → σ[i]? = some b → σ'[i]? = some b) : Num σ' j m v xs := by
  obtain ⟨es, hes, hg⟩ := h.mp
  exact ⟨k j _ (.inl rfl) h.liv, h.gr.keep fun i b hi hb => k i b (.inr (.inr hi)) hb, ⟨es, k m _ (.inr (.inl rfl)) hes, hg⟩, h.ne, h.jv, h.mv, h.jm, h.lv.imp fun jv hj => ⟨hj.1, k jv _ (.inr (.inr hj.1)) hj.2⟩⟩
theorem Num.jl {σ : List StB} {j m : Nat} {v : PV} {xs : List Nat} (h : Num σ j m v xs) : j < σ.length := (List.getElem?_eq_some_iff.1 h.liv).1
theorem Num.ml {σ : List StB} {j m : Nat} {v : PV} {xs : List Nat} (h : Num σ j m v xs) : m < σ.length := by
  obtain ⟨es, hes, hg⟩ := h.mp
  exact (List.getElem?_eq_some_iff.1 hes).1
theorem NF.push {σ : List StB} {j m : Nat} {v : PV} {b : StB} : NF σ (σ ++ [b]) j m v v := ⟨by simp, fun i b _ _ _ h => push_old h, fun _ _ h => h⟩
theorem addL_idx {xs : List Nat} {x y : Nat} (h : y ∈ xs) : (addL xs x).idxOf y = xs.idxOf y := by
  unfold addL
  by_cases hx : x ∈ xs
  · rw [if_pos hx]
  · rw [if_neg hx, idx_old h]
theorem addL_self {xs : List Nat} {x : Nat} : x ∈ addL xs x := addL_mem.2 (.inr rfl)
theorem addL_len {xs : List Nat} {x : Nat} : (addL xs x).length ≤ xs.length + 1 := by
  unfold addL
  by_cases hx : x ∈ xs
  · rw [if_pos hx]; omega
  · rw [if_neg hx]; simp
theorem load_c {C : Ctx} {σ : List StB} {j o : Nat} {t t' : TypeId} {i : TI} {cs : List PV} {v : PV} (hc : contOf σ j = some (t', cs)) (hi : C.ty t = some i) (hv : partP i cs o = some v) : ploadE C σ t (.optr j o) = some v := by
  unfold ploadE
  rw [hi]
  simp only [hc]
  exact hv
theorem NF.set {σ σ' : List StB} {j m L : Nat} {v v' : PV} {b : StB} (h : NF σ σ' j m v v') (hL : σ.length ≤ L) : NF σ (σ'.set L b) j m v v' :=
  ⟨by rw [List.length_set]; exact h.len, fun i b h1 h2 h3 h4 => by
    have := (List.getElem?_eq_some_iff.1 h4).1
    rw [List.getElem?_set_ne (by omega)]; exact h.keep i b h1 h2 h3 h4, h.blk⟩
theorem Num.set {σ : List StB} {j m L : Nat} {v : PV} {xs : List Nat} {b : StB} (h : Num σ j m v xs) (h1 : L ≠ j) (h2 : L ≠ m) (h3 : blkOf v ≠ some L) : Num (σ.set L b) j m v xs :=
  h.keep fun i b hi hb => by
    rw [List.getElem?_set_ne (fun e => by subst e; rcases hi with h | h | h; exact h1 h; exact h2 h; exact h3 h)]; exact hb
theorem fn109 : ctx.fn 109 = some c109 := by kernel_rfl
theorem around_cm (hS : OldO S) {σ : List StB} {j m : Nat} {v : PV} {xs : List Nat} {r u : List Int} {n i x : Nat} {f f' g g' : Nat → Nat} (ho : IsO r u n f f' g g') (h : Num σ j m v xs) (hl : xs.length ≤ 900) (hi : xs[i]? = some x) (hx : x < n) :
    Cm (ctx.plus S) 109 [.optr j 0, pO r u, pn i] σ 20 fun w σ' => ∃ v', w = .agg [pnn ((addL (addL xs (f x)) (g x)).idxOf (f x)), pnn ((addL (addL xs (f x)) (g x)).idxOf (g x))] ∧ Num σ' j m v' (addL (addL xs (f x)) (g x)) ∧ NF σ σ' j m v v' := by
  refine cm_of Onum (hS 109 (by decide)) fn109 fun c k0 hc => ?_
  have hn := ho.le
  have hil := (List.getElem?_eq_some_iff.1 hi).1
  obtain ⟨jv, ty, hcv, hv⟩ := h.gr.shape h.ne
  have hjv : blkOf v = some jv := by rcases hv with rfl | rfl <;> rfl
  have hjvl := contOf_lt hcv
  have hjl := h.jl
  have hml := h.ml
  refine ⟨by omega, by omega, ?_⟩
  refine ⟨by omega, ?_⟩
  refine ⟨by kernel_rfl, ?_⟩
  refine ⟨_, load_c (contOf_app (contOf_app push_cont)) rfl rfl, rfl, ?_⟩
  have hliv := h.liv
  rcases hv with hv | hv
  all_goals
    rw [hv] at hliv
    refine ⟨_, load_liv (push_old (push_old (push_old hliv))) rfl rfl, ?_⟩
    refine ⟨rfl, ?_⟩
    refine ⟨⟨by omega, by omega⟩, ?_⟩
    refine ⟨_, load_k rfl rfl (contOf_app (contOf_app (contOf_app hcv))) (at_map hi) (by show 0 + _ * 1 = i; omega), rfl, ?_⟩
    refine callq rfl (neighbours_ct S hS ho hx) (by omega) ?_
    rintro _ rfl
    obtain ⟨a, ha⟩ : ∃ a : Nat, (addL (addL xs (f x)) (g x)).idxOf (f x) = a := ⟨_, rfl⟩
    obtain ⟨b, hb⟩ : ∃ b : Nat, (addL (addL xs (f x)) (g x)).idxOf (g x) = b := ⟨_, rfl⟩
    rw [ha, hb]
    have ha1 : (addL xs (f x)).idxOf (f x) = a := by rw [← ha, addL_idx addL_self]
    refine ⟨fun q s => ∃ (k k' L6 L7 : Nat) (v' : PV) (σ' : List StB) (T : List PV), s = ⟨T, σ', k'⟩ ∧ Gt T 30 [(0, .optr j 0), (6, .optr L6 0), (7, .optr L7 0), (18, .agg [pnn (f x), pnn (g x)]), (19, pn k)] ∧ q = 2 - k ∧ k ≤ 2 ∧ k' ≤ k0 + 6 + 5 * k ∧ Hid (σ.length ≤ L6 ∧ L6 < L7 ∧ L7 < σ'.length ∧ blkOf v' ≠ some L6 ∧ blkOf v' ≠ some L7 ∧ NF σ σ' j m v v' ∧ σ'[L6]? = some (.live 107 [pn 0, pn 0]) ∧
      ((k = 0 ∧ Num σ' j m v' xs ∧ σ'[L7]? = some (.live 107 [pn 0, pn 0])) ∨ (k = 1 ∧ Num σ' j m v' (addL xs (f x)) ∧ σ'[L7]? = some (.live 107 [pnn a, pn 0])) ∨ (k = 2 ∧ Num σ' j m v' (addL (addL xs (f x)) (g x)) ∧ σ'[L7]? = some (.live 107 [pnn a, pnn b])))), ⟨_, ci ⟨0, _, _, _, v, _, _, rfl, ⟨rfl, rfl, rfl, rfl, rfl, rfl, trivial⟩, rfl, Nat.zero_le _, by omega, ⟨?_, ?_, ?_, ?_, ?_, ?_, ?_, .inl ⟨rfl, h.push.push.push, push_get⟩⟩⟩⟩, ?_⟩
    · simp
    · simp
    · simp
    · rw [hjv]; simp; omega
    · rw [hjv]; simp; omega
    · exact NF.push.trans (NF.push.trans NF.push)
    · exact push_old push_get
    rintro _ s ⟨k, k', L6, L7, v', σ', T, rfl, hT, rfl, hk, hk', hh⟩
    obtain ⟨J, rfl⟩ := gt_open hT
    clear hT
    obtain ⟨c1, c2, c3, c4, c5, c6, c7, c8⟩ := hh.h
    clear hh
    refine ⟨fun hlt => ?_, fun hge => ?_⟩
    · rcases c8 with ⟨rfl, d1, d2⟩ | ⟨rfl, d1, d2⟩ | ⟨rfl, d1, d2⟩
      · refine ⟨⟨by omega, by omega⟩, _, rfl, ?_⟩
        refine callm (number_cm S hS (x := f x) d1 (by omega)) (by omega) ?_
        rintro _ σ2 ⟨v2, rfl, e1, e2⟩
        rw [ha1]
        have g6 := e2.keep L6 _ (by omega) (by omega) c4 c7
        have g7 := e2.keep L7 _ (by omega) (by omega) c5 d2
        have b7 := (List.getElem?_eq_some_iff.1 g7).1
        refine ⟨⟨by omega, by omega⟩, ?_⟩
        refine ⟨_, _, g7, ⟨rfl, Nat.le_of_ble_eq_true rfl, rfl⟩, _, rfl, _, rfl, ?_⟩
        refine ⟨⟨by omega, by omega⟩, ?_⟩
        exact ⟨_, by omega, ci ⟨1, _, L6, L7, v2, _, _, rfl, ⟨rfl, rfl, rfl, rfl, rfl, rfl, trivial⟩, rfl, by omega, by omega, ⟨c1, c2, by rw [List.length_set]; omega, e2.blk L6 (by omega) c4, e2.blk L7 (by omega) c5, (c6.trans e2).set (by omega), by rw [List.getElem?_set_ne (by omega)]; exact g6, .inr (.inl ⟨rfl, e1.set (by omega) (by omega) (e2.blk L7 (by omega) c5), List.getElem?_set_self (by omega)⟩)⟩⟩⟩
      · refine ⟨⟨by omega, by omega⟩, _, rfl, ?_⟩
        have l2 : (addL xs (f x)).length ≤ xs.length + 1 := addL_len
        refine callm (number_cm S hS (x := g x) d1 (by omega)) (by omega) ?_
        rintro _ σ2 ⟨v2, rfl, e1, e2⟩
        rw [hb]
        have g6 := e2.keep L6 _ (by omega) (by omega) c4 c7
        have g7 := e2.keep L7 _ (by omega) (by omega) c5 d2
        have b7 := (List.getElem?_eq_some_iff.1 g7).1
        refine ⟨⟨by omega, by omega⟩, ?_⟩
        refine ⟨_, _, g7, ⟨rfl, Nat.le_of_ble_eq_true rfl, rfl⟩, _, rfl, _, rfl, ?_⟩
        refine ⟨⟨by omega, by omega⟩, ?_⟩
        exact ⟨_, by omega, ci ⟨2, _, L6, L7, v2, _, _, rfl, ⟨rfl, rfl, rfl, rfl, rfl, rfl, trivial⟩, rfl, by omega, by omega, ⟨c1, c2, by rw [List.length_set]; omega, e2.blk L6 (by omega) c4, e2.blk L7 (by omega) c5, (c6.trans e2).set (by omega), by rw [List.getElem?_set_ne (by omega)]; exact g6, .inr (.inr ⟨rfl, e1.set (by omega) (by omega) (e2.blk L7 (by omega) c5), List.getElem?_set_self (by omega)⟩)⟩⟩⟩
      · exact absurd hlt (by omega)
    · rcases c8 with ⟨rfl, d1, d2⟩ | ⟨rfl, d1, d2⟩ | ⟨rfl, d1, d2⟩
      · exact absurd hge (by omega)
      · exact absurd hge (by omega)
      · refine ⟨_, load_c (contOf_live d2) rfl rfl, ?_⟩
        refine ⟨_, _, c7, ⟨rfl, Nat.le_of_ble_eq_true rfl, rfl⟩, _, rfl, _, rfl, ?_⟩
        refine ⟨_, load_c (contOf_live (List.getElem?_set_self (by omega))) rfl rfl, ?_⟩
        exact endm [] (by dsimp only; omega) ⟨v', rfl, d1.set (by omega) (by omega) c4, c6.set c1⟩
end Go.PI
/- THE SQUARES THAT ARE REACHED. -/
open Go.Proofs
namespace Go.PI
open IM
set_option maxRecDepth 10000
set_option maxHeartbeats 4000000
variable (S : FuncId → Option (List AV → Heap → Option (AV × Heap)))
def NL (l : List Nat) : List Int := l.map fun (x : Nat) => (x : Int)
theorem NL_len {l : List Nat} : (NL l).length = l.length := by unfold NL; rw [List.length_map]
theorem pIs_NL {l : List Nat} : PV.lst l.length (l.map pnn) = pIs (NL l) := by
  unfold pIs
  rw [NL_len]
  unfold NL
  rw [List.map_map]
  rfl
theorem NL_get {l : List Nat} {i x : Nat} (h : l[i]? = some x) : (NL l)[i]? = some (x : Int) := by unfold NL; rw [List.getElem?_map, h]; rfl
theorem fn104 : ctx.fn 104 = some c104 := by kernel_rfl
theorem reached_ct (hS : OldO S) {r u : List Int} {n s : Nat} {f f' g g' : Nat → Nat} (ho : IsO r u n f f' g g') (hs : s < n) :
    Ct (ctx.plus S) 104 [pO r u, pn s] 3000 fun w => ∃ k, (bfs f g s k).length ≤ k ∧ w = pIs (NL (bfs f g s k)) := by
  have hn := ho.le
  have hlen := fun i => bfs_len (s := s) ho.pr ho.pu hs i
  refine ctO_of Onum (hS 104 (by decide)) fn104 ?_
  refine ⟨by omega, ?_⟩
  refine callm (numberingFrom_cm S hS (x := s)) (by omega) ?_
  rintro _ σ0 ⟨j0, m0, v0, rfl, a1, a2, a3, a4, a5⟩
  refine ⟨fun q st => ∃ (i b j m : Nat) (v : PV) (σ : List StB) (T : List PV), st = ⟨T, σ, b⟩ ∧ Gt T 26 [(2, .optr 0 0), (5, .optr j 0), (6, pn i)] ∧ q = n - i ∧ i ≤ n ∧ b ≤ 10 + 24 * i ∧ Hid (σ[0]? = some (.live 24 [pIs r, pIs u]) ∧ j ≠ 0 ∧ m ≠ 0 ∧ blkOf v ≠ some 0 ∧ Num σ j m v (bfs f g s i)), ⟨_, ci ⟨0, _, j0, m0, v0, _, _, rfl, ⟨rfl, rfl, rfl, rfl, trivial⟩, rfl, Nat.zero_le _, by omega, ⟨a2 0 _ rfl, by simp at a3; omega, by simp at a4; omega, a5 0 (by simp), a1⟩⟩⟩, ?_⟩
  rintro _ st ⟨i, b, j, m, v, σ, T, rfl, hT, rfl, hi, hb, hh⟩
  obtain ⟨J, rfl⟩ := gt_open hT
  clear hT
  obtain ⟨c1, c2, c3, c4, c5⟩ := hh.h
  clear hh
  obtain ⟨jv, ty, hcv, hv⟩ := c5.gr.shape c5.ne
  have hliv := c5.liv
  have hL := hlen i
  rcases hv with hv | hv
  all_goals
    rw [hv] at hliv
    refine ⟨_, load_liv hliv rfl rfl, ?_⟩
    refine ⟨fun hlt => ?_, fun hge => ?_⟩
    · have hil : i < (bfs f g s i).length := by omega
      obtain ⟨x, hx⟩ : ∃ x, (bfs f g s i)[i]? = some x := ⟨_, List.getElem?_eq_getElem hil⟩
      have hxn := bfs_lt ho.pr ho.pu hs i x (List.mem_of_getElem? hx)
      refine ⟨_, load_c (contOf_live c1) rfl rfl, ?_⟩
      refine callm (around_cm S hS ho c5 (by omega) hx hxn) (by omega) ?_
      rintro _ σ2 ⟨v2, rfl, e1, e2⟩
      rw [← nxt_at hx] at e1
      refine ⟨⟨by omega, by omega⟩, ?_⟩
      exact ⟨_, by omega, ci ⟨i + 1, _, j, m, v2, _, _, rfl, ⟨rfl, rfl, rfl, rfl, trivial⟩, rfl, by omega, by omega, ⟨e2.keep 0 _ (by omega) (by omega) c4 c1, c2, c3, e2.blk 0 ((List.getElem?_eq_some_iff.1 c1).1) c4, e1⟩⟩⟩
    · refine ⟨_, load_liv hliv rfl rfl, ?_⟩
      obtain ⟨σ', hf⟩ := c5.gr.fz
      rw [hv] at hf
      exact endf hf ⟨i, by omega, pIs_NL⟩
end Go.PI
/- WHETHER AN ORIGAMI IS CONNECTED, of the program. -/
open Go.Proofs
namespace Go.PI
open IM
set_option maxRecDepth 10000
set_option maxHeartbeats 4000000
variable (S : FuncId → Option (List AV → Heap → Option (AV × Heap)))
theorem fn114 : ctx.fn 114 = some c114 := by kernel_rfl
theorem isSplit_ct (hS : OldO S) {r u : List Int} {n : Nat} {f f' g g' : Nat → Nat} (ho : IsO r u n f f' g g') :
    Ct (ctx.plus S) 114 [pO r u] 3100 fun w => (Conn n f g ∧ w = .bool false) ∨ (¬ Conn n f g ∧ w = .bool true) := by
  have hn := ho.le
  have hrl := ho.l1.1
  refine ct_of (hS 114 (by decide)) fn114 ?_
  refine ⟨by omega, ?_⟩
  refine ⟨by kernel_rfl, ?_⟩
  refine ⟨_, rfl, rfl, ?_⟩
  refine callq rfl (reached_ct S hS ho ho.pos) (by omega) ?_
  rintro _ ⟨k, hk, rfl⟩
  have h1 := conn_len ho.pr ho.pu ho.pos hk
  have h2 := bfs_len ho.pr ho.pu ho.pos k
  have h3 : (NL (bfs f g 0 k)).length = (bfs f g 0 k).length := NL_len
  refine ⟨_, rfl, rfl, ?_⟩
  refine ⟨fun h => ?_, fun h => ?_⟩
  · have h : ((NL (bfs f g 0 k)).length : Int) < (r.length : Int) := h
    exact endq rfl (.inr ⟨fun hc => by have := h1.2 hc; omega, rfl⟩)
  · have h : (r.length : Int) ≤ ((NL (bfs f g 0 k)).length : Int) := h
    exact endq rfl (.inl ⟨h1.1 (by omega), rfl⟩)
theorem fn137 : ctx.fn 137 = some c137 := by kernel_rfl
theorem fn113 : ctx.fn 113 = some c113 := by kernel_rfl
theorem fn72 : ctx.fn 72 = some c72 := by kernel_rfl
open Classical in
noncomputable def cc (n : Nat) (f g : Nat → Nat) : Int := if Conn n f g then 0 else 16
end Go.PI
/- COMPONENTS of the reference. -/
open Go.Proofs
namespace Go.PI
open IM
set_option maxRecDepth 10000
set_option maxHeartbeats 4000000
variable (S : FuncId → Option (List AV → Heap → Option (AV × Heap)))
structure FlI (n : Nat) (f g : Nat → Nat) (s i j : Nat) (fl : List Bool) : Prop where
  len : fl.length = n
  snd : ∀ y, fl[y]? = some true → Rch f g s y
  rnd : ∀ y, y < n → RchK f g s i y → fl[y]? = some true
  nxt : ∀ z, z < j → RchK f g s i z → fl[f z]? = some true ∧ fl[g z]? = some true
theorem set_true {fl : List Bool} {q y : Nat} (h : fl[y]? = some true) : (fl.set q true)[y]? = some true := by
  by_cases e : q = y
  · subst e; rw [List.getElem?_set_self (List.getElem?_eq_some_iff.1 h).1]
  · rw [List.getElem?_set_ne e]; exact h
theorem set_true_inv {fl : List Bool} {q y : Nat} (h : (fl.set q true)[y]? = some true) : y = q ∨ fl[y]? = some true := by
  by_cases e : q = y
  · exact .inl e.symm
  · rw [List.getElem?_set_ne e] at h; exact .inr h
section
variable {n s i j : Nat} {f f' g g' : Nat → Nat} {fl : List Bool}
theorem fl_mark (h : FlI n f g s i j fl) (hj : fl[j]? = some true) (hf : f j < n) (hg : g j < n) : FlI n f g s i (j + 1) ((fl.set (f j) true).set (g j) true) := by
  have hr := h.snd j hj
  have hl := h.len
  refine ⟨by simp [hl], fun y hy => ?_, fun y hy hk => set_true (set_true (h.rnd y hy hk)), fun z hz hk => ?_⟩
  · rcases set_true_inv hy with rfl | hy
    · exact .g hr
    · rcases set_true_inv hy with rfl | hy
      · exact .f hr
      · exact h.snd y hy
  · by_cases e : z = j
    · subst e
      exact ⟨set_true (by rw [List.getElem?_set_self (by omega)]), by rw [List.getElem?_set_self (by rw [List.length_set]; omega)]⟩
    · have := h.nxt z (by omega) hk
      exact ⟨set_true (set_true this.1), set_true (set_true this.2)⟩
theorem fl_skip (h : FlI n f g s i j fl) (hj : fl[j]? = some false) : FlI n f g s i (j + 1) fl := by
  refine ⟨h.len, h.snd, h.rnd, fun z hz hk => ?_⟩
  by_cases e : z = j
  · subst e
    have := h.rnd z (by have := (List.getElem?_eq_some_iff.1 hj).1; have := h.len; omega) hk
    rw [hj] at this; cases this
  · exact h.nxt z (by omega) hk
theorem fl_next (pf : IsP n f f') (pg : IsP n g g') (hs : s < n) (h : FlI n f g s i n fl) : FlI n f g s (i + 1) 0 fl := by
  refine ⟨h.len, h.snd, fun y hy hk => ?_, fun z hz => by omega⟩
  rcases hk with hk | ⟨z, hk, rfl | rfl⟩
  · exact h.rnd y hy hk
  · exact (h.nxt z (rch_lt pf pg hs (rchK_rch hk)) hk).1
  · exact (h.nxt z (rch_lt pf pg hs (rchK_rch hk)) hk).2
theorem fl_zero (hs : s < n) : FlI n f g s 0 0 ((List.replicate n false).set s true) := by
  refine ⟨by simp, fun y hy => ?_, fun y hy hk => ?_, fun z hz => by omega⟩
  · rcases set_true_inv hy with rfl | hy
    · exact .refl
    · rw [List.getElem?_replicate] at hy
      split at hy <;> simp at hy
  · rw [show y = s from hk, List.getElem?_set_self (by simpa using hs)]
theorem fl_done (pf : IsP n f f') (pg : IsP n g g') (hs : s < n) (h : FlI n f g s n j fl) (y : Nat) : fl[y]? = some true ↔ Rch f g s y := by
  refine ⟨h.snd y, fun hr => ?_⟩
  have hm := bfs_all (bfs_len pf pg hs n) hr
  obtain ⟨p, hp⟩ := List.getElem?_of_mem hm
  have hd := bfs_dist n p y hp
  have hpl := (List.getElem?_eq_some_iff.1 hp).1
  have hbl := bfs_len pf pg hs n
  have := rchK_mono (n - p) hd
  rw [show p + (n - p) = n by omega] at this
  exact h.rnd y (rch_lt pf pg hs hr) this
end
open Classical in
noncomputable def compTo (f g : Nat → Nat) (s k : Nat) : List Nat := (List.range k).filter fun y => decide (Rch f g s y)
theorem compTo_yes {f g : Nat → Nat} {s k : Nat} (h : Rch f g s k) : compTo f g s (k + 1) = compTo f g s k ++ [k] := by
  unfold compTo
  rw [List.range_succ, List.filter_append, List.filter_cons_of_pos (by simpa using h)]
  rfl
theorem compTo_no {f g : Nat → Nat} {s k : Nat} (h : ¬ Rch f g s k) : compTo f g s (k + 1) = compTo f g s k := by
  unfold compTo
  rw [List.range_succ, List.filter_append, List.filter_cons_of_neg (by simpa using h)]
  simp
theorem compTo_len {f g : Nat → Nat} {s k : Nat} : (compTo f g s k).length ≤ k := by
  have := List.length_filter_le (fun y => @decide (Rch f g s y) (Classical.propDecidable _)) (List.range k)
  rw [List.length_range] at this
  exact this
theorem fn68 : ctx.fn 68 = some c68 := by kernel_rfl
theorem component_ct (hS : OldO S) {r u : List Int} {n s : Nat} {f f' g g' : Nat → Nat} (ho : IsO r u n f f' g g') (hs : s < n) :
    Ct (ctx.plus S) 68 [pO r u, pn s] 5000 fun w => w = pIs (NL (compTo f g s n)) := by
  have hn := ho.le
  have hrl := ho.l1.1
  subst hrl
  have gr : ∀ i, i < r.length → r[i]? = some (f i : Int) := fun i hi => by rw [ho.hr, PL_get hi]
  have gu : ∀ i, i < r.length → u[i]? = some (g i : Int) := fun i hi => by rw [ho.hu, PL_get hi]
  have hul := ho.l1.2
  refine ct_of (hS 68 (by decide)) fn68 ?_
  refine ⟨by omega, ?_⟩
  refine ⟨_, rfl, ?_⟩
  refine callq rfl (size_ct S hS) (by omega) ?_
  rintro _ rfl
  refine ⟨by omega, ⟨by omega, by omega, by omega⟩, _, flg_zero, ?_⟩
  refine ⟨⟨by omega, by omega⟩, ?_⟩
  refine ⟨_, _, rfl, ⟨rfl, by rw [List.length_map, List.length_replicate]; show 0 + s * 1 + 1 ≤ _; omega, rfl⟩, _, flg_put (by show 0 + s * 1 = s; omega) (by rw [List.length_replicate]; omega), _, rfl, ?_⟩
  refine ⟨fun m st => ∃ (i b : Nat) (fl : List Bool) (T : List PV), st = ⟨T, [.live 24 [pIs r, pIs u], .live 4 (fl.map PV.bool)], b⟩ ∧ Gt T 61 [(2, .optr 0 0), (5, .own 1 0 r.length r.length 1), (6, pn i)] ∧ m = r.length - i ∧ i ≤ r.length ∧ b ≤ 4 + 62 * i ∧ Hid (FlI r.length f g s i 0 fl), ⟨_, ci ⟨0, _, _, _, rfl, ⟨rfl, rfl, rfl, rfl, trivial⟩, rfl, Nat.zero_le _, by omega, ⟨fl_zero hs⟩⟩⟩, ?_⟩
  rintro _ st ⟨i, b, fl, T, rfl, hT, rfl, hi, hb, hh⟩
  obtain ⟨J, rfl⟩ := gt_open hT
  clear hT
  refine ⟨_, rfl, ?_⟩
  refine callq rfl (size_ct S hS) (by omega) ?_
  rintro _ rfl
  refine ⟨fun hlt => ?_, fun hge => ?_⟩
  · refine ⟨fun m st => ∃ (j b' : Nat) (fl : List Bool) (T : List PV), st = ⟨T, [.live 24 [pIs r, pIs u], .live 4 (fl.map PV.bool)], b'⟩ ∧ Gt T 61 [(2, .optr 0 0), (5, .own 1 0 r.length r.length 1), (6, pn i), (7, pn j)] ∧ m = r.length - j ∧ j ≤ r.length ∧ b' ≤ 5 + 62 * i + j ∧ Hid (FlI r.length f g s i j fl), ⟨_, ci ⟨0, _, _, _, rfl, ⟨rfl, rfl, rfl, rfl, rfl, trivial⟩, rfl, Nat.zero_le _, by omega, hh⟩⟩, ?_⟩
    clear hh fl
    rintro _ st ⟨j, b', fl, T, rfl, hT, rfl, hj, hb', hh⟩
    obtain ⟨J, rfl⟩ := gt_open hT
    clear hT
    have hfl := hh.h.len
    refine ⟨_, rfl, ?_⟩
    refine callq rfl (size_ct S hS) (by omega) ?_
    rintro _ rfl
    refine ⟨fun hlt2 => ?_, fun hge2 => ?_⟩
    · have hjn : j < r.length := by omega
      have c1 := ho.pr.lt j hjn
      have c2 := ho.pu.lt j hjn
      obtain ⟨q, hq⟩ : ∃ q, fl[j]? = some q := ⟨fl[j]'(by omega), List.getElem?_eq_getElem _⟩
      refine ⟨⟨by omega, by omega⟩, ?_⟩
      refine ⟨_, load_k rfl rfl rfl (at_map hq) (by show 0 + _ * 1 = j; omega), ?_⟩
      cases q with
      | true =>
        refine ⟨by kernel_rfl, ?_⟩
        refine ⟨_, rfl, rfl, ?_⟩
        refine ⟨⟨⟨by omega, by omega⟩, len_map_le (by omega)⟩, ?_⟩
        refine ⟨_, ld (at_map (gr j hjn)) (by show _ * 1 = j; omega), rfl, ?_⟩
        refine ⟨_, rfl, rfl, ?_⟩
        refine ⟨⟨⟨by omega, by omega⟩, len_map_le (by omega)⟩, ?_⟩
        refine ⟨_, ld (at_map (gu j hjn)) (by show _ * 1 = j; omega), rfl, ?_⟩
        refine ⟨⟨by omega, by omega⟩, ?_⟩
        refine ⟨_, _, rfl, ⟨rfl, by rw [List.length_map]; show 0 + f j * 1 + 1 ≤ _; omega, rfl⟩, _, flg_put (by show 0 + f j * 1 = f j; omega) (by omega), _, rfl, ?_⟩
        refine ⟨⟨by omega, by omega⟩, ?_⟩
        refine ⟨_, _, rfl, ⟨rfl, by rw [List.length_map, List.length_set]; show 0 + g j * 1 + 1 ≤ _; omega, rfl⟩, _, flg_put (by show 0 + g j * 1 = g j; omega) (by rw [List.length_set]; omega), _, rfl, ?_⟩
        refine ⟨⟨by omega, by omega⟩, ?_⟩
        exact ⟨_, by omega, ci ⟨j + 1, _, _, _, rfl, ⟨rfl, rfl, rfl, rfl, rfl, trivial⟩, rfl, by omega, by omega, ⟨fl_mark hh.h hq c1 c2⟩⟩⟩
      | false =>
        refine ⟨⟨by omega, by omega⟩, ?_⟩
        exact ⟨_, by omega, ci ⟨j + 1, _, fl, _, rfl, ⟨rfl, rfl, rfl, rfl, rfl, trivial⟩, rfl, by omega, by omega, ⟨fl_skip hh.h hq⟩⟩⟩
    · have hjn : j = r.length := by omega
      subst hjn
      refine ⟨⟨by omega, by omega⟩, ?_⟩
      exact ⟨_, by omega, ci ⟨i + 1, _, fl, _, rfl, ⟨rfl, rfl, rfl, rfl, trivial⟩, rfl, by omega, by omega, ⟨fl_next ho.pr ho.pu hs hh.h⟩⟩⟩
  · have hin : i = r.length := by omega
    subst hin
    have hdone := fl_done ho.pr ho.pu hs hh.h
    have hfl := hh.h.len
    refine ⟨fun m st => ∃ (k b' : Nat) (v : PV) (σ : List StB) (T : List PV), st = ⟨T, σ, b'⟩ ∧ Gt T 61 [(2, .optr 0 0), (5, .own 1 0 r.length r.length 1), (8, v), (9, pn k)] ∧ m = r.length - k ∧ k ≤ r.length ∧ b' ≤ 70 + 62 * r.length + 3 * k ∧ Hid (σ[0]? = some (.live 24 [pIs r, pIs u]) ∧ σ[1]? = some (.live 4 (fl.map PV.bool)) ∧ blkOf v ≠ some 0 ∧ blkOf v ≠ some 1 ∧ Gr pnn 3 v σ (compTo f g s k)), ⟨_, ci ⟨0, _, .nils, _, _, rfl, ⟨rfl, rfl, rfl, rfl, rfl, trivial⟩, rfl, Nat.zero_le _, by omega, ⟨rfl, rfl, (fun h => by cases h), (fun h => by cases h), .nil⟩⟩⟩, ?_⟩
    rintro _ st ⟨k, b', v, σ, T, rfl, hT, rfl, hk, hb', hh2⟩
    obtain ⟨J, rfl⟩ := gt_open hT
    clear hT
    obtain ⟨d1, d2, d3, d4, d5⟩ := hh2.h
    refine ⟨_, load_c (contOf_live d1) rfl rfl, ?_⟩
    refine callq rfl (size_ct S hS (r := r) (u := u)) (by omega) ?_
    rintro _ rfl
    refine ⟨fun hlt2 => ?_, fun hge2 => ?_⟩
    · have hki : k < r.length := by omega
      obtain ⟨q, hq⟩ : ∃ q, fl[k]? = some q := ⟨fl[k]'(by omega), List.getElem?_eq_getElem _⟩
      refine ⟨⟨by omega, by omega⟩, ?_⟩
      refine ⟨_, load_k rfl rfl (contOf_live d2) (at_map hq) (by show 0 + _ * 1 = k; omega), ?_⟩
      cases q with
      | true =>
        have hr := (hdone k).1 hq
        refine ⟨by omega, part1 fzI ⟨[pnn k], rfl, ?_⟩⟩
        have hcl : (compTo f g s k).length ≤ k := compTo_len
        have l0 := (List.getElem?_eq_some_iff.1 d1).1
        have l1 := (List.getElem?_eq_some_iff.1 d2).1
        refine appG (f := pnn) (e := 3) (y := k) d5.push push_cont rfl rfl rfl rfl (by kernel_rfl) rfl rfl (by omega) (by omega) fun v' σ' hv' hkp hbv => ?_
        have hne : ∀ q, q < σ.length → blkOf v' ≠ some q := fun q hq e => by
          rw [hbv] at e; have := Option.some.inj e; rw [List.length_append, List.length_singleton] at this; omega
        refine ⟨⟨by omega, by omega⟩, ?_⟩
        exact ⟨_, by omega, ci ⟨k + 1, _, v', σ', _, rfl, ⟨rfl, rfl, rfl, rfl, rfl, trivial⟩, rfl, by omega, by omega, ⟨hkp 0 _ d3 (push_old d1), hkp 1 _ d4 (push_old d2), hne 0 l0, hne 1 l1, by rw [compTo_yes hr]; exact hv'⟩⟩⟩
      | false =>
        have hr : ¬ Rch f g s k := fun h => by have := (hdone k).2 h; rw [hq] at this; cases this
        refine ⟨⟨by omega, by omega⟩, ?_⟩
        exact ⟨_, by omega, ci ⟨k + 1, _, v, σ, _, rfl, ⟨rfl, rfl, rfl, rfl, rfl, trivial⟩, rfl, by omega, by omega, ⟨d1, d2, d3, d4, by rw [compTo_no hr]; exact d5⟩⟩⟩
    · have hki : k = r.length := by omega
      obtain ⟨σ', hf⟩ := d5.fz
      exact endf hf (by rw [hki]; exact pIs_NL)
end Go.PI
