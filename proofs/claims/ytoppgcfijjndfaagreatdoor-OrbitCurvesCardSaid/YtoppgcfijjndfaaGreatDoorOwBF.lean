/- Own work of the verifier: OrDf OrDg OrDh OrDi. -/
import Derived.Test.YtoppgcfijjndfaaGreatDoorOwBE
set_option linter.all false
set_option exponentiation.threshold 3000
set_option linter.deprecated false
/- CUSPS, of the program. -/
open Go.Proofs
namespace Go.PI
open IM
set_option maxRecDepth 10000
set_option maxHeartbeats 4000000
variable (S : FuncId → Option (List AV → Heap → Option (AV × Heap)))
section
variable {N : Nat} {x y : Nat → Nat}
def DoneR (N : Nat) (c : Nat → Nat) (Q : List Int) (m k : Nat) (fl : List Bool) : Prop := fl.length = N ∧ ∀ z : Nat, z < N → (fl[z]? = some true ↔ (∃ m' : Nat, (m' : Int) ∈ Q ∧ InC c m' z) ∨ ∃ j, j < k ∧ it c j m = z)
theorem DoneR.zero {c : Nat → Nat} {Q : List Int} {m m' : Nat} {fl : List Bool} (h : DoneR N c Q m 0 fl) : DoneR N c Q m' 0 fl := ⟨h.1, fun z hz => by
  rw [h.2 z hz]
  constructor
  · rintro (h | ⟨j, hj, -⟩)
    · exact .inl h
    · omega
  · rintro (h | ⟨j, hj, -⟩)
    · exact .inl h
    · omega⟩
theorem DoneR.next {c c' : Nat → Nat} (hc : IsP N c c') {Q : List Int} {m k : Nat} {fl : List Bool} (hm : m < N) (h : DoneR N c Q m k fl) : DoneR N c Q m (k + 1) (fl.set (it c k m) true) := by
  have hlt := it_lt hc hm k
  refine ⟨by rw [List.length_set]; exact h.1, fun z hz => ?_⟩
  by_cases e : z = it c k m
  · subst e
    rw [List.getElem?_set_self (by rw [h.1]; exact hlt)]
    exact ⟨fun _ => .inr ⟨k, by omega, rfl⟩, fun _ => rfl⟩
  · rw [List.getElem?_set_ne (fun h => e h.symm), h.2 z hz]
    constructor
    · rintro (h | ⟨j, hj, he⟩)
      · exact .inl h
      · exact .inr ⟨j, by omega, he⟩
    · rintro (h | ⟨j, hj, he⟩)
      · exact .inl h
      · refine .inr ⟨j, ?_, he⟩
        rcases Nat.lt_or_ge j k with h1 | h1
        · exact h1
        · exact absurd (by rw [← he, show j = k by omega]) e
theorem XY.flag (h : XY N x y) {t m k : Nat} {fl : List Bool} (ht : (prN x N)[t]? = some (m : Int)) (hm : m < N) (hd : DoneR N (cuF x y) ((prN x N).take t) m k fl) (hk : k ≤ ordr (cuF x y) m) (hk0 : ¬ lead (cuF x y) m → k = 0) : fl[it (cuF x y) k m]? = some true ↔ ¬ lead (cuF x y) m ∨ k = ordr (cuF x y) m := by
  obtain ⟨c', hc⟩ := h.perm
  obtain ⟨o1, o2, o3, o4⟩ := ordr_spec hc hm
  rw [hd.2 _ (it_lt hc hm k), ← h.seen ht]
  constructor
  · rintro (⟨m', h1, h2⟩ | ⟨j, hj, he⟩)
    · have h3 : InC (cuF x y) m (it (cuF x y) k m) := ⟨k, rfl⟩
      exact .inl ⟨m', h1, h2.trans (h3.symm hc hm)⟩
    · right
      refine Classical.byContradiction fun hne => ?_
      refine o4 (ordr (cuF x y) m - k + j) (by omega) (by omega) ?_
      have e1 : it (cuF x y) (ordr (cuF x y) m - k + j) m = it (cuF x y) (ordr (cuF x y) m - k) (it (cuF x y) j m) := by rw [it_add]
      rw [e1, he, ← it_add, show ordr (cuF x y) m - k + k = ordr (cuF x y) m by omega, o2]
  · rintro (hn | he)
    · have := hk0 ((h.seen ht).1 hn)
      subst this
      exact .inl hn
    · exact .inr ⟨0, by omega, by rw [he, o2]; rfl⟩
theorem XY.done (h : XY N x y) {t m k : Nat} {fl : List Bool} (ht : (prN x N)[t]? = some (m : Int)) (hm : m < N) (hd : DoneR N (cuF x y) ((prN x N).take t) m k fl) (hk : ¬ lead (cuF x y) m ∧ k = 0 ∨ lead (cuF x y) m ∧ k = ordr (cuF x y) m) : DoneR N (cuF x y) ((prN x N).take (t + 1)) 0 0 fl := by
  obtain ⟨c', hc⟩ := h.perm
  obtain ⟨o1, o2, o3, o4⟩ := ordr_spec hc hm
  have hmem : ∀ m' : Nat, (m' : Int) ∈ (prN x N).take (t + 1) ↔ (m' : Int) ∈ (prN x N).take t ∨ m' = m := fun m' => by
    have e : (m' : Int) ∈ (some (m : Int)).toList ↔ m' = m := by simp only [Option.toList_some, List.mem_singleton]; omega
    rw [List.take_add_one, ht, List.mem_append, e]
  refine ⟨hd.1, fun z hz => ?_⟩
  rw [hd.2 z hz]
  constructor
  · rintro (⟨m', h1, h2⟩ | ⟨j, hj, he⟩)
    · exact .inl ⟨m', (hmem m').2 (.inl h1), h2⟩
    · exact .inl ⟨m, (hmem m).2 (.inr rfl), j, he⟩
  · rintro (⟨m', h1, h2⟩ | ⟨j, hj, -⟩)
    · rcases (hmem m').1 h1 with h1 | rfl
      · exact .inl ⟨m', h1, h2⟩
      · rcases hk with ⟨hn, rfl⟩ | ⟨hl, rfl⟩
        · obtain ⟨m1, a1, a2⟩ := (h.seen ht).2 hn
          exact .inl ⟨m1, a1, a2.trans h2⟩
        · have := (mem_cyc hc hm).2 ⟨z, rfl, h2⟩
          obtain ⟨j, hj, e⟩ := List.mem_map.1 this
          exact .inr ⟨j, List.mem_range.1 hj, by omega⟩
    · omega
end
end Go.PI
/- CUSPS, of the program: the walk. -/
open Go.Proofs
namespace Go.PI
open IM
set_option maxRecDepth 20000
set_option maxHeartbeats 4000000
variable (S : FuncId → Option (List AV → Heap → Option (AV × Heap)))
def flK (Ls : List (List Int)) : List PV := Ls.flatMap fun l => [pn l.length, pIs l]
def pK (Ls : List (List Int)) : PV := .lst Ls.length (flK Ls)
theorem flK_app {A B : List (List Int)} : flK (A ++ B) = flK A ++ flK B := by simp [flK]
theorem flK_len : ∀ {Ls : List (List Int)}, (flK Ls).length = 2 * Ls.length
  | [] => rfl
  | l :: Ls => by
    show ([pn l.length, pIs l] ++ flK Ls).length = _
    rw [List.length_append, flK_len]
    simp
    omega
def Gk (v : PV) (σ : List StB) (Ls : List (List Int)) : Prop := (v = .nils ∧ Ls = []) ∨ ∃ j, v = .ownu j Ls.length 2 ∧ σ[j]? = some (.live 109 (flK Ls)) ∧ 0 < Ls.length
theorem Gk.keep {v : PV} {σ σ' : List StB} {Ls : List (List Int)} (h : Gk v σ Ls) (k : ∀ j b, blkOf v = some j → σ[j]? = some b → σ'[j]? = some b) : Gk v σ' Ls := by
  rcases h with h | ⟨j, rfl, h, h0⟩
  · exact .inl h
  · exact .inr ⟨j, rfl, k j _ rfl h, h0⟩
theorem Gk.fz {v : PV} {σ : List StB} {Ls : List (List Int)} (h : Gk v σ Ls) : ∃ σ', Fz v σ (pK Ls) σ' := by
  rcases h with ⟨rfl, rfl⟩ | ⟨j, rfl, h, h0⟩
  · exact ⟨σ, fzN⟩
  · exact ⟨_, fun K hK => ⟨109, _, _, contOf_live h, ⟨by rw [flK_len]; omega, fun e => absurd e (by omega)⟩, by rw [List.take_of_length_le (by rw [flK_len]; omega)], hK⟩⟩
theorem appK2 {c k : Nat} {v : PV} {Ls : List (List Int)} {l : List Int} {i m : Nat} {ty : TypeId} {σ : List StB} {K : PV → List StB → Nat → Prop} (hg : Gk v σ Ls) (hx : contOf σ i = some (ty, [pn l.length, pIs l])) (hl : Ls.length ≤ 1000000) (hk : k < c)
    (hK : ∀ v' σ', Gk v' σ' (Ls ++ [l]) → (∀ j b, blkOf v ≠ some j → σ[j]? = some b → σ'[j]? = some b) → blkOf v' = some σ.length → K v' σ' (k + 1)) : AppK (ctx.plus S) c k σ [70, 70] v (.own i 0 1 1 m) K := by
  refine ⟨?_⟩
  have hti : (ctx.plus S).ty 70 = some { desc := .slice 109, size := t70.size, bytes := t70.bytes, zero := t70.zero } := rfl
  have he : (ctx.plus S).ty 109 = some t109 := rfl
  have hd : decide (srcOk ({ desc := .slice 109, size := t70.size, bytes := t70.bytes, zero := t70.zero } : TI).desc = true ∧ t109.bytes ≤ 2 ^ 10) = true := rfl
  have hs : t109.size = 2 := rfl
  unfold pappK
  simp only [hti, he]
  simp only [hd]
  have hfl : flK (Ls ++ [l]) = flK Ls ++ [pn l.length, pIs l] := by rw [flK_app]; rfl
  have hlen : (Ls ++ [l]).length = Ls.length + 1 := by simp
  refine ⟨ty, [pn l.length, pIs l], [pn l.length, pIs l], hx, by rw [hs]; simp, by rw [hs]; rfl, ⟨by decide, rfl⟩, ?_⟩
  have hold : ∀ {b : StB} {j : Nat} {x : StB}, σ[j]? = some x → (σ ++ [b])[j]? = some x := fun h => push_old h
  rcases hg with ⟨rfl, rfl⟩ | ⟨j, rfl, h, h0⟩
  · refine ⟨(fun h => by cases h), fun _ => ⟨hk, ?_⟩⟩
    exact hK _ _ (.inr ⟨σ.length, rfl, by rw [hfl]; exact push_get, by simp⟩) (fun j b _ hb => hold hb) rfl
  · refine ⟨⟨by omega, hs.symm, hk⟩, flK Ls, flK Ls ++ [pn l.length, pIs l], h, by rw [hs, flK_len]; omega, by rw [hs, List.take_of_length_le (by rw [flK_len]; omega)], ?_⟩
    refine hK _ _ (.inr ⟨σ.length, by rw [hlen], by rw [hfl]; simp, by omega⟩) (fun j' b hj hb => ?_) rfl
    have hne : j ≠ j' := fun e => hj (by rw [← e]; rfl)
    rw [List.getElem?_append_left (by rw [List.length_set]; exact (List.getElem?_eq_some_iff.1 hb).1), List.getElem?_set_ne hne]
    exact hb
def Ocu : Opn := ⟨fun t => Nat.beq t 109 || Nat.beq t 100109, fun t => Nat.beq t 43 || Nat.beq t 3, false⟩
theorem gr_cells {v : PV} {σ : List StB} {Xs : List Int} (h : Gr pn 3 v σ Xs) : v.pcells = [v] ∧ v.one = true := by
  rcases h with ⟨rfl, -⟩ | ⟨j, ty, rfl, -⟩ | ⟨j, rfl, -⟩ <;> exact ⟨rfl, rfl⟩
theorem fn99 : ctx.fn 99 = some c99 := by kernel_rfl
theorem cusps_ct (hS : OldO S) {L : OL} {X Y : List Int} (hx : XY L.length (ixN X) (ixN Y)) (hX : ∀ w, w < L.length → X[w]? = some (ixN X w : Int) ∧ ixN X w < L.length) (hY : ∀ w, w < L.length → Y[w]? = some (ixN Y w : Int) ∧ ixN Y w < L.length) (hl : X.length = L.length) (hl2 : Y.length = L.length) (hL : L.length ≤ 2000) :
    Ct (ctx.plus S) 99 [pB L X Y] 30000000 fun v => v = pK (cuL (ixN X) (ixN Y) (prN (ixN X) L.length)) := by
  obtain ⟨N, hN⟩ : ∃ N, N = L.length := ⟨_, rfl⟩
  obtain ⟨c', hc⟩ := hx.perm
  obtain ⟨P, hP⟩ : ∃ P, P = prN (ixN X) L.length := ⟨_, rfl⟩
  have hpl : P.length ≤ L.length := by rw [hP]; exact prN_len
  have hpg : ∀ (i : Nat) (a : Int), P[i]? = some a → ∃ m : Nat, a = m ∧ m < L.length ∧ lz (ixN X) m = m := fun i a h => by rw [hP] at h; exact prN_get h
  have hpc := pairs_ct S hS (X := X) (Y := Y) hX hl hL
  have hflag := fun {t m k : Nat} {fl : List Bool} => hx.flag (t := t) (m := m) (k := k) (fl := fl)
  have hdone := fun {t m k : Nat} {fl : List Bool} => hx.done (t := t) (m := m) (k := k) (fl := fl)
  rw [← hP] at hpc ⊢
  rw [← hP] at hflag hdone
  refine ctO_of Ocu (hS 99 (by decide)) fn99 ?_
  refine ⟨by omega, ?_⟩
  refine ⟨_, rfl, ?_⟩
  refine ⟨by omega, ⟨by omega, by omega, by omega⟩, _, flg_zero, ?_⟩
  refine ⟨_, rfl, ?_⟩
  refine callq rfl hpc (by omega) ?_
  rintro _ rfl
  have hd0 : DoneR L.length (cuF (ixN X) (ixN Y)) (P.take 0) 0 0 (List.replicate L.length false) := ⟨by simp, fun z hz => by
    rw [List.getElem?_replicate]
    constructor
    · intro h; split at h <;> simp at h
    · rintro (⟨m', h, -⟩ | ⟨j, h, -⟩)
      · simp at h
      · omega⟩
  refine ⟨fun m s => ∃ (t b : Nat) (v3 : PV) (σ : List StB) (fl : List Bool) (T : List PV), s = ⟨T, σ, b⟩ ∧ Gt T 55 [(1, .optr 0 0), (3, v3), (4, .own 1 0 L.length L.length 1), (14, pIs P), (15, pn P.length), (16, pn t)] ∧ m = P.length - t ∧ t ≤ P.length ∧ b ≤ 20010 + t * 7000 ∧ Hid ((σ[0]? = some (.live 56 [pOs L, pIs X, pIs Y]) ∧ σ[1]? = some (.live 4 (fl.map PV.bool))) ∧ Gk v3 σ (cuL (ixN X) (ixN Y) (P.take t)) ∧ (blkOf v3 ≠ some 0 ∧ blkOf v3 ≠ some 1) ∧ DoneR L.length (cuF (ixN X) (ixN Y)) (P.take t) 0 0 fl), ⟨_, ci ⟨0, _, .nils, _, List.replicate L.length false, _, rfl, ⟨rfl, rfl, rfl, rfl, rfl, rfl, rfl, trivial⟩, rfl, Nat.zero_le _, by omega, ⟨⟨rfl, rfl⟩, .inl ⟨rfl, rfl⟩, ⟨(fun h => by cases h), (fun h => by cases h)⟩, hd0⟩⟩⟩, ?_⟩
  clear hd0
  rintro _ s ⟨t, b, v3, σ, fl, T, rfl, hT, rfl, ht, hb, hh⟩
  obtain ⟨J, rfl⟩ := gt_open hT
  clear hT
  obtain ⟨⟨s0, s1⟩, hg3, ⟨v30, v31⟩, hd⟩ := hh.h
  clear hh
  refine ⟨fun hlt => ?_, fun hge => ?_⟩
  · obtain ⟨a, ha⟩ := xs_get (xs := P) (i := t) (by omega)
    obtain ⟨m, rfl, hm, hmz⟩ := hpg t a ha
    refine ⟨⟨⟨by omega, by omega⟩, len_map_le (by omega)⟩, ?_⟩
    refine ⟨_, ld (at_map ha) (by show _ * 1 = t; omega), ?_⟩
    refine ⟨by omega, ?_⟩
    obtain ⟨o1, o2, o3, o4⟩ := ordr_spec hc hm
    obtain ⟨cu, hcu⟩ : ∃ cu, cu = cuF (ixN X) (ixN Y) := ⟨_, rfl⟩
    have hrep : ∀ k, it cu k m < L.length ∧ lz (ixN X) (it cu k m) = it cu k m := fun k => by rw [hcu]; exact hx.rep_it hm hmz k
    have hnx : ∀ k, lz (ixN X) (ixN Y (it cu k m)) = it cu (k + 1) m := fun k => by
      have hr := (hrep k).2
      have e : it cu (k + 1) m = cuF (ixN X) (ixN Y) (it cu k m) := by rw [← hcu]; rfl
      rw [e, cuF, if_pos hr]
    rw [← hcu] at hc o1 o2 o3 o4 hd
    have hfl := fun {k : Nat} {fl : List Bool} => hflag (t := t) (m := m) (k := k) (fl := fl) ha hm
    have hdn := fun {k : Nat} {fl : List Bool} => hdone (t := t) (m := m) (k := k) (fl := fl) ha hm
    rw [← hcu] at hfl hdn
    have sl := (List.getElem?_eq_some_iff.1 s1).1
    obtain ⟨j7, h7⟩ : ∃ j7, j7 = σ.length := ⟨_, rfl⟩
    have hv37 : blkOf v3 ≠ some j7 := fun e => by
      rcases hg3 with ⟨rfl, -⟩ | ⟨j, rfl, h, -⟩
      · cases e
      · have e : j = j7 := Option.some.inj e
        have := (List.getElem?_eq_some_iff.1 h).1
        omega
    refine ⟨fun q s => ∃ (k b' : Nat) (v : PV) (σ' : List StB) (fl' : List Bool) (T : List PV), s = ⟨T, σ', b'⟩ ∧ Gt T 55 [(1, .optr 0 0), (3, v3), (4, .own 1 0 L.length L.length 1), (7, .optr j7 0), (8, pn (it cu k m)), (14, pIs P), (15, pn P.length), (16, pn t)] ∧ q = ordr cu m - k ∧ k ≤ ordr cu m ∧ b' ≤ b + 1 + 3 * k ∧ Hid (((σ'[0]? = some (.live 56 [pOs L, pIs X, pIs Y]) ∧ σ'[1]? = some (.live 4 (fl'.map PV.bool))) ∧ σ'[j7]? = some (.liv 109 [pn 0, v])) ∧ Gk v3 σ' (cuL (ixN X) (ixN Y) (P.take t)) ∧ Gr pn 3 v σ' (cycTo cu m k) ∧ ((blkOf v ≠ some 0 ∧ blkOf v ≠ some 1) ∧ blkOf v ≠ some j7 ∧ ∀ j, blkOf v = some j → blkOf v3 ≠ some j) ∧ DoneR L.length cu (P.take t) m k fl' ∧ (¬ lead cu m → k = 0)), ⟨_, ci ⟨0, _, .nils, _, fl, _, rfl, ⟨rfl, rfl, rfl, rfl, by rw [h7]; rfl, rfl, rfl, rfl, rfl, trivial⟩, rfl, Nat.zero_le _, by omega, ⟨⟨⟨push_old s0, push_old s1⟩, by rw [h7]; exact push_get⟩, hg3.keep (fun j b _ hb => push_old hb), .inl ⟨rfl, rfl⟩, ⟨⟨(fun h => by cases h), (fun h => by cases h)⟩, (fun h => by cases h), (fun j h => by cases h)⟩, hd.zero, fun _ => rfl⟩⟩⟩, ?_⟩
    clear hd s0 s1
    rintro _ s ⟨k, b', v, σ', fl', T, rfl, hT, rfl, hk, hb', hh⟩
    obtain ⟨J, rfl⟩ := gt_open hT
    clear hT
    obtain ⟨⟨⟨s0, s1⟩, s7⟩, hg3', hg, ⟨⟨v0, v1⟩, v7, v3v⟩, hd, hk0⟩ := hh.h
    clear hh
    obtain ⟨hi1, hi2⟩ := hrep k
    obtain ⟨q, hq⟩ : ∃ q, fl'[it cu k m]? = some q := ⟨_, List.getElem?_eq_getElem (by rw [hd.1]; exact hi1)⟩
    have hff := hfl hd hk hk0
    rw [hq] at hff
    refine ⟨⟨by omega, by omega⟩, ?_⟩
    refine ⟨_, load_k rfl rfl (contOf_live s1) (at_map hq) (by show 0 + it cu k m * 1 = it cu k m; omega), ?_⟩
    cases q with
    | false =>
      have hno : ¬ (¬ lead cu m ∨ k = ordr cu m) := fun h => by have := hff.2 h; cases this
      have hlead : lead cu m := Classical.byContradiction fun h => hno (.inl h)
      have hkl : k < ordr cu m := by
        rcases Nat.lt_or_ge k (ordr cu m) with h | h
        · exact h
        · exact absurd (.inr (by omega)) hno
      obtain ⟨y1, y2⟩ := hY _ hi1
      have hcl := cycTo_len (f := cu) (x := m) (k := k)
      refine ⟨⟨by omega, by omega⟩, ?_⟩
      refine ⟨_, _, s1, ⟨rfl, by rw [List.length_map, hd.1]; show 0 + it cu k m * 1 + 1 ≤ _; omega, rfl⟩, _, flg_put (j := it cu k m) (by show 0 + it cu k m * 1 = it cu k m; omega) (by rw [hd.1]; exact hi1), _, rfl, ?_⟩
      have hs1 : 1 < σ'.length := (List.getElem?_eq_some_iff.1 s1).1
      have hset : ∀ (j : Nat) (b : StB), j ≠ 1 → σ'[j]? = some b → (σ'.set 1 (StB.live 4 ((fl'.set (it cu k m) true).map PV.bool)))[j]? = some b := fun j b hj hb => by rw [List.getElem?_set_ne (Ne.symm hj)]; exact hb
      have hset1 : (σ'.set 1 (StB.live 4 ((fl'.set (it cu k m) true).map PV.bool)))[1]? = some (StB.live 4 ((fl'.set (it cu k m) true).map PV.bool)) := List.getElem?_set_self hs1
      have j71 : j7 ≠ 1 := by omega
      have j70 : j7 ≠ 0 := by omega
      have s0a := hset 0 _ (by decide) s0
      have s7a := hset j7 _ j71 s7
      have hga := hg.keep fun j b hj hb => hset j b (fun e => v1 (by rw [hj, e])) hb
      have hg3a := hg3'.keep fun j b hj hb => hset j b (fun e => v31 (by rw [hj, e])) hb
      generalize σ'.set 1 (StB.live 4 ((fl'.set (it cu k m) true).map PV.bool)) = σ2 at hset hset1 s0a s7a hga hg3a ⊢
      refine ⟨_, load_liv s7a rfl rfl, ?_⟩
      refine ⟨by omega, partc rfl ⟨_, rfl, ?_⟩⟩
      refine appG (Gr.keep hga fun j b _ hb => push_old hb) push_cont rfl rfl rfl rfl rfl rfl rfl (by omega) (by omega) ?_
      intro v' σ3 a1 a2 a3
      obtain ⟨pc1, pc2⟩ := gr_cells a1
      have s7b := a2 j7 _ v7 (push_old s7a)
      refine ⟨_, _, s7b, ⟨by rw [pc1]; rfl, Nat.le_refl 2, by rw [pc1]; simp [pones, pc2]⟩, _, (by rw [pc1]; rfl : pspl [pn 0, v] 1 v'.pcells = [pn 0, v']), _, rfl, ?_⟩
      have l7 : j7 < σ3.length := (List.getElem?_eq_some_iff.1 s7b).1
      have set7 : ∀ (j : Nat) (b : StB), j ≠ j7 → σ3[j]? = some b → (σ3.set j7 (StB.liv 109 [pn 0, v']))[j]? = some b := fun j b hj hb => by rw [List.getElem?_set_ne (Ne.symm hj)]; exact hb
      have s0c := set7 0 _ (Ne.symm j70) (a2 0 _ v0 (push_old s0a))
      have s1c := set7 1 _ (Ne.symm j71) (a2 1 _ v1 (push_old hset1))
      have s7c : (σ3.set j7 (StB.liv 109 [pn 0, v']))[j7]? = some (StB.liv 109 [pn 0, v']) := List.getElem?_set_self l7
      have hl1 := (List.getElem?_eq_some_iff.1 hset1).1
      have hl7 := (List.getElem?_eq_some_iff.1 s7a).1
      have hl0 := (List.getElem?_eq_some_iff.1 s0a).1
      obtain ⟨jj, a4, a5⟩ : ∃ jj, blkOf v' = some jj ∧ σ2.length ≤ jj := ⟨_, a3, by rw [List.length_append]; exact Nat.le_add_right _ _⟩
      have hnj : ∀ j, j < σ2.length → blkOf v' ≠ some j := fun j hj e => by rw [a4] at e; have := Option.some.inj e; omega
      have hg3c : Gk v3 (σ3.set j7 (StB.liv 109 [pn 0, v'])) (cuL (ixN X) (ixN Y) (P.take t)) := hg3a.keep fun j b hj hb => set7 j b (fun e => hv37 (by rw [hj, e])) (a2 j b (fun e => v3v j e hj) (push_old hb))
      have hgc : Gr pn 3 v' (σ3.set j7 (StB.liv 109 [pn 0, v'])) (cycTo cu m (k + 1)) := by
        rw [cycTo_succ]
        exact a1.keep fun j b hj hb => set7 j b (fun e => hnj j7 hl7 (by rw [hj, e])) hb
      have hv3' : ∀ j, blkOf v' = some j → blkOf v3 ≠ some j := fun j e e3 => by
        rcases hg3a with ⟨rfl, -⟩ | ⟨j3, rfl, h, -⟩
        · cases e3
        · have e3 : j3 = j := Option.some.inj e3
          exact hnj j3 (List.getElem?_eq_some_iff.1 h).1 (by rw [e, e3])
      have hles := lesser_ct S hS (L := L) (X := X) (Y := Y) hX hl hL y2
      rw [hnx k] at hles
      refine ⟨by kernel_rfl, ?_⟩
      refine ⟨_, load_agg S rfl (contOf_live s0c) rfl, rfl, ?_⟩
      refine ⟨_, load_k rfl rfl (contOf_live s0c) (show [pOs L, pIs X, pIs Y][2]? = some (pIs Y) from rfl) rfl, rfl, ?_⟩
      refine ⟨⟨⟨by omega, by omega⟩, len_map_le (by omega)⟩, ?_⟩
      refine ⟨_, ld (at_map y1) (by show _ * 1 = it cu k m; omega), rfl, ?_⟩
      refine callq (ps := [pB L X Y, pn (ixN Y (it cu k m))]) rfl hles (by omega) ?_
      rintro _ rfl
      exact ⟨_, by omega, ci ⟨k + 1, _, v', _, _, _, rfl, ⟨rfl, rfl, rfl, rfl, rfl, rfl, rfl, rfl, rfl, trivial⟩, rfl, by omega, by omega, ⟨⟨⟨s0c, s1c⟩, s7c⟩, hg3c, hgc, ⟨⟨hnj 0 hl0, hnj 1 hl1⟩, hnj j7 hl7, hv3'⟩, hd.next hc hm, fun h => absurd hlead h⟩⟩⟩
    | true =>
      have hbr := hff.1 rfl
      have hkk : ¬ lead cu m ∧ k = 0 ∨ lead cu m ∧ k = ordr cu m := by
        by_cases h : lead cu m
        · exact .inr ⟨h, hbr.resolve_left fun hn => hn h⟩
        · exact .inl ⟨h, hk0 h⟩
      have hdone := hdn hd hkk
      have hcl := cycTo_len (f := cu) (x := m) (k := k)
      have hLs : (cuL (ixN X) (ixN Y) (P.take t)).length ≤ P.length := by
        unfold cuL
        rw [List.length_map]
        exact Nat.le_trans (List.length_filter_le _ _) (by rw [List.length_take]; omega)
      have l7 : j7 < σ'.length := (List.getElem?_eq_some_iff.1 s7).1
      have j71 : j7 ≠ 1 := by omega
      have j70 : j7 ≠ 0 := by omega
      have set7 : ∀ (x : StB) (j : Nat) (b : StB), j ≠ j7 → σ'[j]? = some b → (σ'.set j7 x)[j]? = some b := fun x j b hj hb => by rw [List.getElem?_set_ne (Ne.symm hj)]; exact hb
      have get7 : ∀ x : StB, (σ'.set j7 x)[j7]? = some x := fun x => List.getElem?_set_self l7
      rcases hg with ⟨rfl, hx0⟩ | ⟨jj, ty, rfl, hcc⟩ | ⟨jj, rfl, hcc⟩
      · have hk00 : k = 0 := by
          have := congrArg List.length hx0
          rw [hcl] at this
          exact this
        have hnl : ¬ lead cu m := by rcases hkk with h' | h'; exact h'.1; omega
        refine ⟨_, load_liv s7 rfl rfl, ?_⟩
        refine ⟨_, _, s7, ⟨rfl, Nat.le_of_ble_eq_true rfl, rfl⟩, _, rfl, _, rfl, ?_⟩
        refine ⟨_, load_liv (get7 _) rfl rfl, ?_⟩
        refine ⟨fun h => absurd h (by decide), fun _ => ?_⟩
        refine ⟨⟨by omega, by omega⟩, ?_⟩
        exact ⟨_, by omega, ci ⟨t + 1, _, v3, _, fl', _, rfl, ⟨rfl, rfl, rfl, rfl, rfl, rfl, rfl, trivial⟩, rfl, by omega, by omega, ⟨⟨set7 _ 0 _ (Ne.symm j70) s0, set7 _ 1 _ (Ne.symm j71) s1⟩, by rw [cuL_no ha (by rw [← hcu]; exact hnl)]; exact hg3'.keep fun j b hj hb => set7 _ j b (fun e => hv37 (by rw [hj, e])) hb, ⟨v30, v31⟩, by rw [← hcu]; exact hdone⟩⟩⟩
      · refine ⟨_, load_liv s7 rfl rfl, ?_⟩
        refine ⟨_, _, s7, ⟨rfl, Nat.le_of_ble_eq_true rfl, rfl⟩, [pn (cycTo cu m k).length, .own jj 0 (cycTo cu m k).length (cycTo cu m k).length 1], rfl, _, rfl, ?_⟩
        refine ⟨_, load_liv (get7 _) rfl rfl, ?_⟩
        refine ⟨fun h => ?_, fun h => ?_⟩
        · have h : ((cycTo cu m k).length : Int) > 0 := h
          have hlead : lead cu m := by rcases hkk with h' | h'; omega; exact h'.1
          have hko : k = ordr cu m := by rcases hkk with h' | h'; omega; exact h'.2
          refine ⟨_, load_liv (get7 _) rfl rfl, ?_⟩
          have hjj : jj ≠ j7 := fun e => v7 (by rw [← e]; rfl)
          have hj3 : blkOf v3 ≠ some jj := v3v jj rfl
          have hc5 : contOf (σ'.set j7 (StB.liv 109 [pn (cycTo cu m k).length, .own jj 0 (cycTo cu m k).length (cycTo cu m k).length 1])) jj = some (ty, (cycTo cu m k).map pn) := by
            unfold contOf at hcc ⊢
            rw [List.getElem?_set_ne (Ne.symm hjj)]
            exact hcc
          have hfz : Fz (.agg [pn (cycTo cu m k).length, .own jj 0 (cycTo cu m k).length (cycTo cu m k).length 1]) (σ'.set j7 (StB.liv 109 [pn (cycTo cu m k).length, .own jj 0 (cycTo cu m k).length (cycTo cu m k).length 1])) (.agg [pn (cycTo cu m k).length, pIs (cycTo cu m k)]) ((σ'.set j7 (StB.liv 109 [pn (cycTo cu m k).length, .own jj 0 (cycTo cu m k).length (cycTo cu m k).length 1])).set jj (.frz ty ((cycTo cu m k).map pn))) := fun K hK => ⟨ty, _, _, hc5, ⟨by rw [List.length_map]; omega, Nat.le_refl _⟩, by rw [List.drop_zero, List.take_of_length_le (by rw [List.length_map]; omega)], hK⟩
          refine ⟨by omega, part1 hfz ⟨_, rfl, ?_⟩⟩
          have set6 : ∀ (j : Nat) (b : StB), j ≠ j7 → j ≠ jj → σ'[j]? = some b → ((σ'.set j7 (StB.liv 109 [pn (cycTo cu m k).length, .own jj 0 (cycTo cu m k).length (cycTo cu m k).length 1])).set jj (.frz ty ((cycTo cu m k).map pn)))[j]? = some b := fun j b h1 h2 hb => by
            rw [List.getElem?_set_ne (Ne.symm h2)]
            exact set7 _ _ _ h1 hb
          refine appK2 S (l := cycTo cu m k) ((hg3'.keep fun j b hj hb => push_old (set6 j b (fun e => hv37 (by rw [hj, e])) (fun e => hj3 (by rw [hj, e])) hb))) push_cont (by omega) (by omega) ?_
          intro v' σ6 a1 a2 a3
          have hjj0 : jj ≠ 0 := fun e => v0 (by rw [← e]; rfl)
          have hjj1 : jj ≠ 1 := fun e => v1 (by rw [← e]; rfl)
          have hl1 := (List.getElem?_eq_some_iff.1 s1).1
          have hlen : ((σ'.set j7 (StB.liv 109 [pn (cycTo cu m k).length, .own jj 0 (cycTo cu m k).length (cycTo cu m k).length 1])).set jj (.frz ty ((cycTo cu m k).map pn)) ++ [StB.live 109 [pn (cycTo cu m k).length, pIs (cycTo cu m k)]]).length = σ'.length + 1 := by simp
          obtain ⟨j6, a4, a5⟩ : ∃ j6, blkOf v' = some j6 ∧ 2 ≤ j6 := ⟨_, a3, (by rw [hlen]; omega : 2 ≤ ((σ'.set j7 (StB.liv 109 [pn (cycTo cu m k).length, .own jj 0 (cycTo cu m k).length (cycTo cu m k).length 1])).set jj (.frz ty ((cycTo cu m k).map pn)) ++ [StB.live 109 [pn (cycTo cu m k).length, pIs (cycTo cu m k)]]).length)⟩
          have hcy : cuL (ixN X) (ixN Y) (P.take (t + 1)) = cuL (ixN X) (ixN Y) (P.take t) ++ [cycTo cu m k] := by
            rw [cuL_yes ha (by rw [← hcu]; exact hlead), ← hcu, cyc_to, hko]
          refine ⟨⟨by omega, by omega⟩, ?_⟩
          exact ⟨_, by omega, ci ⟨t + 1, _, v', σ6, fl', _, rfl, ⟨rfl, rfl, rfl, rfl, rfl, rfl, rfl, trivial⟩, rfl, by omega, by omega, ⟨⟨a2 0 _ v30 (push_old (set6 0 _ (Ne.symm j70) (Ne.symm hjj0) s0)), a2 1 _ v31 (push_old (set6 1 _ (Ne.symm j71) (Ne.symm hjj1) s1))⟩, by rw [hcy]; exact a1, ⟨fun e => by rw [a4] at e; have := Option.some.inj e; omega, fun e => by rw [a4] at e; have := Option.some.inj e; omega⟩, by rw [← hcu]; exact hdone⟩⟩⟩
        · have h : ¬ ((cycTo cu m k).length : Int) > 0 := fun e => by have h : ((cycTo cu m k).length : Int) ≤ 0 := h; omega
          have hnl : ¬ lead cu m := by rcases hkk with h' | h'; exact h'.1; omega
          refine ⟨⟨by omega, by omega⟩, ?_⟩
          exact ⟨_, by omega, ci ⟨t + 1, _, v3, _, fl', _, rfl, ⟨rfl, rfl, rfl, rfl, rfl, rfl, rfl, trivial⟩, rfl, by omega, by omega, ⟨⟨set7 _ 0 _ (Ne.symm j70) s0, set7 _ 1 _ (Ne.symm j71) s1⟩, by rw [cuL_no ha (by rw [← hcu]; exact hnl)]; exact hg3'.keep fun j b hj hb => set7 _ j b (fun e => hv37 (by rw [hj, e])) hb, ⟨v30, v31⟩, by rw [← hcu]; exact hdone⟩⟩⟩
      · refine ⟨_, load_liv s7 rfl rfl, ?_⟩
        refine ⟨_, _, s7, ⟨rfl, Nat.le_of_ble_eq_true rfl, rfl⟩, [pn (cycTo cu m k).length, .ownu jj (cycTo cu m k).length 1], rfl, _, rfl, ?_⟩
        refine ⟨_, load_liv (get7 _) rfl rfl, ?_⟩
        refine ⟨fun h => ?_, fun h => ?_⟩
        · have h : ((cycTo cu m k).length : Int) > 0 := h
          have hlead : lead cu m := by rcases hkk with h' | h'; omega; exact h'.1
          have hko : k = ordr cu m := by rcases hkk with h' | h'; omega; exact h'.2
          refine ⟨_, load_liv (get7 _) rfl rfl, ?_⟩
          have hjj : jj ≠ j7 := fun e => v7 (by rw [← e]; rfl)
          have hj3 : blkOf v3 ≠ some jj := v3v jj rfl
          have hc5 : contOf (σ'.set j7 (StB.liv 109 [pn (cycTo cu m k).length, .ownu jj (cycTo cu m k).length 1])) jj = some (3, (cycTo cu m k).map pn) := contOf_live (set7 _ _ _ hjj hcc)
          have hfz : Fz (.agg [pn (cycTo cu m k).length, .ownu jj (cycTo cu m k).length 1]) (σ'.set j7 (StB.liv 109 [pn (cycTo cu m k).length, .ownu jj (cycTo cu m k).length 1])) (.agg [pn (cycTo cu m k).length, pIs (cycTo cu m k)]) ((σ'.set j7 (StB.liv 109 [pn (cycTo cu m k).length, .ownu jj (cycTo cu m k).length 1])).set jj (.frz 3 ((cycTo cu m k).map pn))) := fun K hK => ⟨3, _, _, hc5, ⟨by rw [List.length_map]; omega, fun _ => rfl⟩, by rw [List.take_of_length_le (by rw [List.length_map]; omega)], hK⟩
          refine ⟨by omega, part1 hfz ⟨_, rfl, ?_⟩⟩
          have set6 : ∀ (j : Nat) (b : StB), j ≠ j7 → j ≠ jj → σ'[j]? = some b → ((σ'.set j7 (StB.liv 109 [pn (cycTo cu m k).length, .ownu jj (cycTo cu m k).length 1])).set jj (.frz 3 ((cycTo cu m k).map pn)))[j]? = some b := fun j b h1 h2 hb => by
            rw [List.getElem?_set_ne (Ne.symm h2)]
            exact set7 _ _ _ h1 hb
          refine appK2 S (l := cycTo cu m k) ((hg3'.keep fun j b hj hb => push_old (set6 j b (fun e => hv37 (by rw [hj, e])) (fun e => hj3 (by rw [hj, e])) hb))) push_cont (by omega) (by omega) ?_
          intro v' σ6 a1 a2 a3
          have hjj0 : jj ≠ 0 := fun e => v0 (by rw [← e]; rfl)
          have hjj1 : jj ≠ 1 := fun e => v1 (by rw [← e]; rfl)
          have hl1 := (List.getElem?_eq_some_iff.1 s1).1
          have hlen : ((σ'.set j7 (StB.liv 109 [pn (cycTo cu m k).length, .ownu jj (cycTo cu m k).length 1])).set jj (.frz 3 ((cycTo cu m k).map pn)) ++ [StB.live 109 [pn (cycTo cu m k).length, pIs (cycTo cu m k)]]).length = σ'.length + 1 := by simp
          obtain ⟨j6, a4, a5⟩ : ∃ j6, blkOf v' = some j6 ∧ 2 ≤ j6 := ⟨_, a3, (by rw [hlen]; omega : 2 ≤ ((σ'.set j7 (StB.liv 109 [pn (cycTo cu m k).length, .ownu jj (cycTo cu m k).length 1])).set jj (.frz 3 ((cycTo cu m k).map pn)) ++ [StB.live 109 [pn (cycTo cu m k).length, pIs (cycTo cu m k)]]).length)⟩
          have hcy : cuL (ixN X) (ixN Y) (P.take (t + 1)) = cuL (ixN X) (ixN Y) (P.take t) ++ [cycTo cu m k] := by
            rw [cuL_yes ha (by rw [← hcu]; exact hlead), ← hcu, cyc_to, hko]
          refine ⟨⟨by omega, by omega⟩, ?_⟩
          exact ⟨_, by omega, ci ⟨t + 1, _, v', σ6, fl', _, rfl, ⟨rfl, rfl, rfl, rfl, rfl, rfl, rfl, trivial⟩, rfl, by omega, by omega, ⟨⟨a2 0 _ v30 (push_old (set6 0 _ (Ne.symm j70) (Ne.symm hjj0) s0)), a2 1 _ v31 (push_old (set6 1 _ (Ne.symm j71) (Ne.symm hjj1) s1))⟩, by rw [hcy]; exact a1, ⟨fun e => by rw [a4] at e; have := Option.some.inj e; omega, fun e => by rw [a4] at e; have := Option.some.inj e; omega⟩, by rw [← hcu]; exact hdone⟩⟩⟩
        · have h : ¬ ((cycTo cu m k).length : Int) > 0 := fun e => by have h : ((cycTo cu m k).length : Int) ≤ 0 := h; omega
          have hnl : ¬ lead cu m := by rcases hkk with h' | h'; exact h'.1; omega
          refine ⟨⟨by omega, by omega⟩, ?_⟩
          exact ⟨_, by omega, ci ⟨t + 1, _, v3, _, fl', _, rfl, ⟨rfl, rfl, rfl, rfl, rfl, rfl, rfl, trivial⟩, rfl, by omega, by omega, ⟨⟨set7 _ 0 _ (Ne.symm j70) s0, set7 _ 1 _ (Ne.symm j71) s1⟩, by rw [cuL_no ha (by rw [← hcu]; exact hnl)]; exact hg3'.keep fun j b hj hb => set7 _ j b (fun e => hv37 (by rw [hj, e])) hb, ⟨v30, v31⟩, by rw [← hcu]; exact hdone⟩⟩⟩
  · have hte : t = P.length := by omega
    subst hte
    rw [List.take_length] at hg3
    obtain ⟨σ', hf⟩ := hg3.fz
    exact endf hf rfl
end Go.PI
/- CUSPS, of the reference. -/
open Go.Proofs
namespace Go.PI
open IM
set_option maxRecDepth 20000
set_option maxHeartbeats 4000000
variable (S : FuncId → Option (List AV → Heap → Option (AV × Heap)))
def lsN (c : Nat → Nat) (m : Nat) : Nat → Nat
  | 0 => m
  | k + 1 => min (lsN c m k) (it c k m)
theorem lsN_le {c : Nat → Nat} {m : Nat} : ∀ {k}, lsN c m k ≤ m ∧ ∀ j, j < k → lsN c m k ≤ it c j m
  | 0 => ⟨Nat.le_refl _, fun j h => by omega⟩
  | k + 1 => by
    obtain ⟨h1, h2⟩ := lsN_le (c := c) (m := m) (k := k)
    refine ⟨by show min _ _ ≤ _; omega, fun j hj => ?_⟩
    show min _ _ ≤ _
    rcases Nat.lt_or_ge j k with h | h
    · have := h2 j h; omega
    · rw [show j = k by omega]; omega
theorem lsN_is {c : Nat → Nat} {m : Nat} : ∀ {k}, lsN c m k = m ∨ ∃ j, j < k ∧ lsN c m k = it c j m
  | 0 => .inl rfl
  | k + 1 => by
    show min _ _ = m ∨ ∃ j, _ ∧ min _ _ = _
    rcases Nat.le_total (lsN c m k) (it c k m) with h | h
    · rw [Nat.min_eq_left h]
      rcases lsN_is (c := c) (m := m) (k := k) with e | ⟨j, hj, e⟩
      · exact .inl e
      · exact .inr ⟨j, by omega, e⟩
    · rw [Nat.min_eq_right h]
      exact .inr ⟨k, by omega, rfl⟩
theorem lsN_lead {n : Nat} {c c' : Nat → Nat} (hc : IsP n c c') {m : Nat} (hm : m < n) : lsN c m (ordr c m) = m ↔ lead c m := by
  constructor
  · intro e z hz
    have := (mem_cyc hc hm).2 ⟨z, rfl, hz⟩
    obtain ⟨j, hj, ez⟩ := List.mem_map.1 this
    have h := (lsN_le (c := c) (m := m) (k := ordr c m)).2 j (List.mem_range.1 hj)
    omega
  · intro hl
    rcases lsN_is (c := c) (m := m) (k := ordr c m) with e | ⟨j, hj, e⟩
    · exact e
    · have h1 := hl (it c j m) ⟨j, rfl⟩
      have h2 := (lsN_le (c := c) (m := m) (k := ordr c m)).1
      omega
theorem Gr.fz2 {v : PV} {σ : List StB} {Xs : List Int} (h : Gr pn 3 v σ Xs) : ∃ σ', Fz v σ (pIs Xs) σ' ∧ ∀ j b, blkOf v ≠ some j → σ[j]? = some b → σ'[j]? = some b := by
  rcases h with ⟨rfl, rfl⟩ | ⟨j, ty, rfl, h⟩ | ⟨j, rfl, h⟩
  · exact ⟨σ, fzN, fun _ _ _ h => h⟩
  · exact ⟨_, fun K hK => ⟨ty, _, _, h, ⟨by simp, by omega⟩, by rw [List.drop_zero, List.take_of_length_le (by simp)], hK⟩, fun i b hi hb => by rw [List.getElem?_set_ne (fun e => hi (by rw [← e]; rfl))]; exact hb⟩
  · exact ⟨_, fun K hK => ⟨3, _, _, contOf_live h, ⟨by simp, fun _ => rfl⟩, by rw [List.take_of_length_le (by simp)], hK⟩, fun i b hi hb => by rw [List.getElem?_set_ne (fun e => hi (by rw [← e]; rfl))]; exact hb⟩
theorem cycTo_at {c : Nat → Nat} {m k q : Nat} (h : q < k) : (cycTo c m k)[q]? = some ((it c q m : Nat) : Int) := by simp [cycTo, h]
theorem fn50 : ctx.fn 50 = some c50 := by kernel_rfl
theorem rcusps_ct (hS : OldO S) {L : OL} {X Y : List Int} (hx : XY L.length (ixN X) (ixN Y)) (hX : ∀ w, w < L.length → X[w]? = some (ixN X w : Int) ∧ ixN X w < L.length) (hY : ∀ w, w < L.length → Y[w]? = some (ixN Y w : Int) ∧ ixN Y w < L.length) (hl : X.length = L.length) (hl2 : Y.length = L.length) (hL : L.length ≤ 2000) :
    Ct (ctx.plus S) 50 [pB L X Y] 30000000 fun v => v = pK (cuL (ixN X) (ixN Y) (prN (ixN X) L.length)) := by
  obtain ⟨c', hc⟩ := hx.perm
  obtain ⟨P, hP⟩ : ∃ P, P = prN (ixN X) L.length := ⟨_, rfl⟩
  have hpl : P.length ≤ L.length := by rw [hP]; exact prN_len
  have hpg : ∀ (i : Nat) (a : Int), P[i]? = some a → ∃ m : Nat, a = m ∧ m < L.length ∧ lz (ixN X) m = m := fun i a h => by rw [hP] at h; exact prN_get h
  have hpc := rpairs_ct S hS (X := X) (Y := Y) hX hl hL
  rw [← hP] at hpc ⊢
  refine ct_of (hS 50 (by decide)) fn50 ?_
  refine ⟨by omega, ?_⟩
  refine ⟨_, rfl, ?_⟩
  refine callq rfl hpc (by omega) ?_
  rintro _ rfl
  refine ⟨fun m s => ∃ (t b : Nat) (v3 : PV) (σ : List StB) (T : List PV), s = ⟨T, σ, b⟩ ∧ Gt T 79 [(1, .optr 0 0), (3, v3), (4, pIs P), (5, pn t)] ∧ m = P.length - t ∧ t ≤ P.length ∧ b ≤ 20010 + t * 7000 ∧ Hid (σ[0]? = some (.live 56 [pOs L, pIs X, pIs Y]) ∧ Gk v3 σ (cuL (ixN X) (ixN Y) (P.take t)) ∧ blkOf v3 ≠ some 0), ⟨_, ci ⟨0, _, .nils, _, _, rfl, ⟨rfl, rfl, rfl, rfl, rfl, trivial⟩, rfl, Nat.zero_le _, by omega, ⟨rfl, .inl ⟨rfl, rfl⟩, (fun h => by cases h)⟩⟩⟩, ?_⟩
  rintro _ s ⟨t, b, v3, σ, T, rfl, hT, rfl, ht, hb, hh⟩
  obtain ⟨J, rfl⟩ := gt_open hT
  clear hT
  obtain ⟨s0, hg3, v30⟩ := hh.h
  clear hh
  refine ⟨fun hlt => ?_, fun hge => ?_⟩
  · obtain ⟨a, ha⟩ := xs_get (xs := P) (i := t) (by omega)
    obtain ⟨m, rfl, hm, hmz⟩ := hpg t a ha
    obtain ⟨o1, o2, o3, o4⟩ := ordr_spec hc hm
    have hll := lsN_lead hc hm
    obtain ⟨cu, hcu⟩ : ∃ cu, cu = cuF (ixN X) (ixN Y) := ⟨_, rfl⟩
    have hrep : ∀ k, it cu k m < L.length ∧ lz (ixN X) (it cu k m) = it cu k m := fun k => by rw [hcu]; exact hx.rep_it hm hmz k
    have hnx : ∀ k, lz (ixN X) (ixN Y (it cu k m)) = it cu (k + 1) m := fun k => by
      have hr := (hrep k).2
      have e : it cu (k + 1) m = cuF (ixN X) (ixN Y) (it cu k m) := by rw [← hcu]; rfl
      rw [e, cuF, if_pos hr]
    rw [← hcu] at hc o1 o2 o3 o4 hll
    obtain ⟨y1, y2⟩ := hY m hm
    have hles := fun k => pair_ct S hS (L := L) (X := X) (Y := Y) hX hl hL (hY _ (hrep k).1).2
    have hles0 := hles 0
    rw [hnx 0] at hles0
    have hs0l := (List.getElem?_eq_some_iff.1 s0).1
    refine ⟨⟨⟨by omega, by omega⟩, len_map_le (by omega)⟩, ?_⟩
    refine ⟨_, ld (at_map ha) (by show _ * 1 = t; omega), ?_⟩
    refine ⟨by omega, partc rfl ⟨_, rfl, ?_⟩⟩
    refine ⟨by kernel_rfl, ?_⟩
    refine ⟨_, load_agg S rfl (contOf_live (push_old s0)) rfl, rfl, ?_⟩
    refine ⟨_, load_k rfl rfl (contOf_live (push_old s0)) (show [pOs L, pIs X, pIs Y][2]? = some (pIs Y) from rfl) rfl, rfl, ?_⟩
    refine ⟨⟨⟨by omega, by omega⟩, len_map_le (by omega)⟩, ?_⟩
    refine ⟨_, ld (at_map ha) (by show _ * 1 = t; omega), rfl, ?_⟩
    refine ⟨⟨⟨by omega, by omega⟩, len_map_le (by omega)⟩, ?_⟩
    refine ⟨_, ld (at_map y1) (by show _ * 1 = m; omega), rfl, ?_⟩
    refine callq (ps := [pB L X Y, pn (ixN Y m)]) rfl hles0 (by omega) ?_
    rintro _ rfl
    refine ⟨fun q s => ∃ (k b' : Nat) (v : PV) (σ' : List StB) (T : List PV), s = ⟨T, σ', b'⟩ ∧ Gt T 79 [(1, .optr 0 0), (3, v3), (4, pIs P), (5, pn t), (6, v), (7, pn (it cu (k + 1) m))] ∧ q = ordr cu m - k ∧ k + 1 ≤ ordr cu m ∧ b' ≤ b + 2 + 3 * k ∧ Hid (σ'[0]? = some (.live 56 [pOs L, pIs X, pIs Y]) ∧ Gk v3 σ' (cuL (ixN X) (ixN Y) (P.take t)) ∧ Gr pn 3 v σ' (cycTo cu m (k + 1)) ∧ blkOf v ≠ some 0 ∧ ∀ j, blkOf v = some j → blkOf v3 ≠ some j), ⟨_, ci ⟨0, _, .own σ.length 0 1 1 1, _, _, rfl, ⟨rfl, rfl, rfl, rfl, rfl, rfl, rfl, trivial⟩, rfl, by omega, by omega, ⟨push_old s0, hg3.keep (fun j b _ hb => push_old hb), .inr (.inl ⟨σ.length, 3, rfl, push_cont⟩), (fun e => by have := Option.some.inj e; omega), fun j e e3 => by
      have e := Option.some.inj e
      rcases hg3 with ⟨rfl, -⟩ | ⟨j3, rfl, h, -⟩
      · cases e3
      · have e3 : j3 = j := Option.some.inj e3
        have := (List.getElem?_eq_some_iff.1 h).1
        omega⟩⟩⟩, ?_⟩
    clear s0 hg3
    rintro _ s ⟨k, b', v, σ', T, rfl, hT, rfl, hk, hb', hh⟩
    obtain ⟨J, rfl⟩ := gt_open hT
    clear hT
    obtain ⟨s0, hg3, hg, v0, v3v⟩ := hh.h
    clear hh
    have hcl := cycTo_len (f := cu) (x := m) (k := k + 1)
    refine ⟨⟨⟨by omega, by omega⟩, len_map_le (by omega)⟩, ?_⟩
    refine ⟨_, ld (at_map ha) (by show _ * 1 = t; omega), ?_⟩
    refine ⟨fun hne => ?_, fun heq => ?_⟩
    · have hne : it cu (k + 1) m ≠ m := fun e => hne (by show ((it cu (k + 1) m : Nat) : Int) = (m : Nat); rw [e])
      have hkl : k + 1 < ordr cu m := by
        rcases Nat.lt_or_ge (k + 1) (ordr cu m) with h | h
        · exact h
        · exact absurd (by rw [show k + 1 = ordr cu m by omega]; exact o2) hne
      obtain ⟨i1, i2⟩ := hrep (k + 1)
      obtain ⟨z1, z2⟩ := hY _ i1
      have hlk := hles (k + 1)
      rw [hnx (k + 1)] at hlk
      refine ⟨by omega, partc rfl ⟨_, rfl, ?_⟩⟩
      refine appG (Gr.keep hg fun j b _ hb => push_old hb) push_cont rfl rfl rfl rfl rfl rfl rfl (by omega) (by omega) ?_
      intro v' σ3 a1 a2 a3
      have s0c := a2 0 _ v0 (push_old s0)
      obtain ⟨jj, a4, a5⟩ : ∃ jj, blkOf v' = some jj ∧ σ'.length ≤ jj := ⟨_, a3, by rw [List.length_append]; exact Nat.le_add_right _ _⟩
      have l0 := (List.getElem?_eq_some_iff.1 s0).1
      refine ⟨by kernel_rfl, ?_⟩
      refine ⟨_, load_agg S rfl (contOf_live s0c) rfl, rfl, ?_⟩
      refine ⟨_, load_k rfl rfl (contOf_live s0c) (show [pOs L, pIs X, pIs Y][2]? = some (pIs Y) from rfl) rfl, rfl, ?_⟩
      refine ⟨⟨⟨by omega, by omega⟩, len_map_le (by omega)⟩, ?_⟩
      refine ⟨_, ld (at_map z1) (by show _ * 1 = it cu (k + 1) m; omega), rfl, ?_⟩
      refine callq (ps := [pB L X Y, pn (ixN Y (it cu (k + 1) m))]) rfl hlk (by omega) ?_
      rintro _ rfl
      refine ⟨_, by omega, ci ⟨k + 1, _, v', σ3, _, rfl, ⟨rfl, rfl, rfl, rfl, rfl, rfl, rfl, trivial⟩, rfl, by omega, by omega, ⟨s0c, hg3.keep (fun j b hj hb => a2 j b (fun e => v3v j e hj) (push_old hb)), by rw [cycTo_succ]; exact a1, (fun e => by rw [a4] at e; have := Option.some.inj e; omega), fun j e e3 => ?_⟩⟩⟩
      rw [a4] at e
      have e := Option.some.inj e
      rcases hg3 with ⟨rfl, -⟩ | ⟨j3, rfl, h, -⟩
      · cases e3
      · have e3 : j3 = j := Option.some.inj e3
        have := (List.getElem?_eq_some_iff.1 h).1
        omega
    · have heq : it cu (k + 1) m = m := by have h : ((it cu (k + 1) m : Nat) : Int) = (m : Nat) := heq; omega
      have hko : k + 1 = ordr cu m := by
        rcases Nat.lt_or_ge (k + 1) (ordr cu m) with h | h
        · exact absurd heq (o4 (k + 1) (by omega) h)
        · omega
      have hLs : (cuL (ixN X) (ixN Y) (P.take t)).length ≤ P.length := by
        unfold cuL
        rw [List.length_map]
        exact Nat.le_trans (List.length_filter_le _ _) (by rw [List.length_take]; omega)
      have hc0 : (cycTo cu m (k + 1))[0]? = some (m : Int) := cycTo_at (by omega)
      obtain ⟨σ2, hF, hkp⟩ := hg.fz2
      have s02 := hkp 0 _ v0 s0
      have hg32 := hg3.keep fun j b hj hb => hkp j b (fun e => v3v j e hj) hb
      have l0 : 0 < (cycTo cu m (k + 1)).length := by omega
      rcases hg with ⟨rfl, hx0⟩ | ⟨jj, ty, rfl, hcc⟩ | ⟨jj, rfl, hcc⟩
      · rw [hx0] at l0
        exact absurd l0 (by decide)
      all_goals
        refine ⟨⟨by omega, by omega⟩, ?_⟩
        refine ⟨_, load_k rfl rfl (by first | exact hcc | exact contOf_live hcc) (at_map hc0) rfl, ?_⟩
        refine ⟨fun mm s => ∃ (q : Nat) (T : List PV), s = ⟨T, σ2, b'⟩ ∧ Gt T 79 [(1, .optr 0 0), (3, v3), (4, pIs P), (5, pn t), (6, pIs (cycTo cu m (k + 1))), (8, pn (lsN cu m q)), (9, pn q)] ∧ mm = k + 1 - q ∧ q ≤ k + 1, ⟨_, ⟨_, frzS_tmp (i := 6) rfl (hF _ rfl), 0, _, rfl, ⟨rfl, rfl, rfl, rfl, rfl, rfl, rfl, rfl, trivial⟩, rfl, Nat.zero_le _⟩⟩, ?_⟩
        clear hF
        rintro _ s ⟨q, T, rfl, hT, rfl, hq⟩
        obtain ⟨J, rfl⟩ := gt_open hT
        clear hT
        refine ⟨fun hlt2 => ?_, fun hge2 => ?_⟩
        · have hqk : q < k + 1 := by omega
          refine ⟨⟨⟨by omega, by omega⟩, len_map_le (by omega)⟩, ?_⟩
          refine ⟨_, ld (at_map (cycTo_at hqk)) (by show _ * 1 = q; omega), ?_⟩
          refine ⟨⟨by omega, by omega⟩, ?_⟩
          exact ⟨_, by omega, ci ⟨q + 1, _, rfl, ⟨rfl, rfl, rfl, rfl, rfl, rfl, (by show pn (min (lsN cu m q : Int) (it cu q m : Int)) = pn ((min (lsN cu m q) (it cu q m) : Nat) : Int); congr 1; omega), rfl, trivial⟩, rfl, by omega⟩⟩
        · have hqe : q = ordr cu m := by omega
          subst hqe
          refine ⟨⟨⟨by omega, by omega⟩, len_map_le (by omega)⟩, ?_⟩
          refine ⟨_, ld (at_map ha) (by show _ * 1 = t; omega), ?_⟩
          refine ⟨fun h => ?_, fun h => ?_⟩
          · have hlead : lead cu m := hll.1 (by omega)
            have hcy : cuL (ixN X) (ixN Y) (P.take (t + 1)) = cuL (ixN X) (ixN Y) (P.take t) ++ [cycTo cu m (k + 1)] := by
              rw [cuL_yes ha (by rw [← hcu]; exact hlead), ← hcu, cyc_to, hko]
            refine partc rfl ⟨_, rfl, ?_⟩
            refine ⟨by omega, partc rfl ⟨_, rfl, ?_⟩⟩
            refine appK2 S (l := cycTo cu m (k + 1)) (hg32.keep fun j b _ hb => push_old hb) push_cont (by omega) (by omega) ?_
            intro v' σ6 a1 a2 a3
            refine ⟨⟨by omega, by omega⟩, ?_⟩
            refine ⟨_, by omega, ci ⟨t + 1, _, v', σ6, _, rfl, ⟨rfl, rfl, rfl, rfl, rfl, trivial⟩, rfl, by omega, by omega, ⟨a2 0 _ v30 (push_old s02), by rw [hcy]; exact a1, fun e => ?_⟩⟩⟩
            rw [a3] at e
            have e := Option.some.inj e
            simp at e
          · have hnl : ¬ lead cu m := fun h' => h (by rw [hll.2 h'])
            refine ⟨⟨by omega, by omega⟩, ?_⟩
            exact ⟨_, by omega, ci ⟨t + 1, _, v3, σ2, _, rfl, ⟨rfl, rfl, rfl, rfl, rfl, trivial⟩, rfl, by omega, by omega, ⟨s02, by rw [cuL_no ha (by rw [← hcu]; exact hnl)]; exact hg32, v30⟩⟩⟩
  · have hte : t = P.length := by omega
    subst hte
    rw [List.take_length] at hg3
    obtain ⟨σ', hf⟩ := hg3.fz
    exact endf hf rfl
end Go.PI
/- CUSPS compared; the genus of both. -/
open Go.Proofs
namespace Go.PI
open IM
set_option maxRecDepth 20000
set_option maxHeartbeats 4000000
variable (S : FuncId → Option (List AV → Heap → Option (AV × Heap)))
theorem flK_drop : ∀ {A : List (List Int)} {i : Nat} {l : List Int}, A[i]? = some l → ∃ rest, (flK A).drop (2 * i) = pn l.length :: pIs l :: rest
  | [], i, l, h => by simp at h
  | a :: A, 0, l, h => by
    simp at h
    subst h
    exact ⟨flK A, rfl⟩
  | a :: A, i + 1, l, h => by
    obtain ⟨rest, e⟩ := flK_drop (A := A) (i := i) (l := l) (by simpa using h)
    exact ⟨rest, by rw [← e]; show (pn a.length :: pIs a :: flK A).drop (2 * (i + 1)) = _; rw [show 2 * (i + 1) = 2 * i + 2 by omega]; rfl⟩
theorem fn49 : ctx.fn 49 = some c49 := by kernel_rfl
theorem cmpK_ct (hS : OldO S) {A : List (List Int)} (hA : A.length ≤ 1000000) (hm : ∀ l ∈ A, l.length ≤ 1000000) : Ct (ctx.plus S) 49 [pK A, pK A] 1 fun v => v = .bool true := by
  have hfl := flK_len (Ls := A)
  refine ct_of (hS 49 (by decide)) fn49 ?_
  refine ⟨fun h => absurd rfl h, fun _ => ?_⟩
  refine ⟨fun m s => ∃ (i : Nat) (T : List PV), s = ⟨T, [], 0⟩ ∧ Gt T 42 [(0, pK A), (1, pK A), (5, pn i)] ∧ m = A.length - i ∧ i ≤ A.length, ⟨_, ci ⟨0, _, rfl, ⟨rfl, rfl, rfl, rfl, trivial⟩, rfl, Nat.zero_le _⟩⟩, ?_⟩
  rintro _ s ⟨i, T, rfl, hT, rfl, hi⟩
  obtain ⟨J, rfl⟩ := gt_open hT
  clear hT
  refine ⟨fun hlt => ?_, fun hge => ?_⟩
  · have hil : i < A.length := by have h : (i : Int) < (A.length : Nat) := hlt; omega
    obtain ⟨l, hl⟩ : ∃ l, A[i]? = some l := ⟨_, List.getElem?_eq_getElem hil⟩
    obtain ⟨rest, hr⟩ := flK_drop hl
    have hll := hm l (List.mem_of_getElem? hl)
    have k0 : ∀ q, q = 2 * i → (((flK A).drop q).drop 0)[0]? = some (pn l.length) := fun q hq => by rw [hq, hr]; rfl
    have k1 : ∀ q, q = 2 * i → (((flK A).drop q).drop 1)[0]? = some (pIs l) := fun q hq => by rw [hq, hr]; rfl
    have kl : ∀ q, q = 2 * i → ((flK A).drop q).length = 2 * A.length - 2 * i := fun q hq => by rw [hq, List.length_drop, hfl]
    refine ⟨by kernel_rfl, ?_⟩
    refine ⟨⟨⟨by omega, by show (i : Int) < (A.length : Nat); omega⟩, by show (i : Int).toNat * 2 ≤ _; omega⟩, ?_⟩
    refine ⟨Nat.zero_le _, ?_⟩
    refine ⟨_, k0 _ (by show (i : Int).toNat * 2 = _; omega), rfl, ?_⟩
    refine ⟨⟨⟨by omega, by show (i : Int) < (A.length : Nat); omega⟩, by show (i : Int).toNat * 2 ≤ _; omega⟩, ?_⟩
    refine ⟨Nat.zero_le _, ?_⟩
    refine ⟨_, k0 _ (by show (i : Int).toNat * 2 = _; omega), rfl, ?_⟩
    refine ⟨fun h => absurd rfl h, fun _ => ?_⟩
    refine ⟨⟨⟨by omega, by show (i : Int) < (A.length : Nat); omega⟩, by show (i : Int).toNat * 2 ≤ _; omega⟩, ?_⟩
    refine ⟨by rw [kl _ (by show (i : Int).toNat * 2 = _; omega)]; show 1 ≤ _; omega, ?_⟩
    refine ⟨_, k1 _ (by show (i : Int).toNat * 2 = _; omega), rfl, ?_⟩
    refine ⟨⟨⟨by omega, by show (i : Int) < (A.length : Nat); omega⟩, by show (i : Int).toNat * 2 ≤ _; omega⟩, ?_⟩
    refine ⟨by rw [kl _ (by show (i : Int).toNat * 2 = _; omega)]; show 1 ≤ _; omega, ?_⟩
    refine ⟨_, k1 _ (by show (i : Int).toNat * 2 = _; omega), rfl, ?_⟩
    refine callq rfl (ints_ct S hS hll hll) (by omega) ?_
    rintro _ rfl
    rw [decide_eq_true rfl]
    refine ⟨⟨by omega, by omega⟩, ?_⟩
    exact ⟨_, by omega, ci ⟨i + 1, _, rfl, ⟨rfl, rfl, rfl, rfl, trivial⟩, rfl, by omega⟩⟩
  · exact endq rfl rfl
def genZ (p two three q : Nat) : Int := 1 + ((p : Int) - 3 * two - 4 * three - 6 * q).tdiv 12
section
variable {L : OL} {X Y : List Int}
theorem fn101 : ctx.fn 101 = some c101 := by kernel_rfl
theorem genus_ct (hS : OldO S) (hx : XY L.length (ixN X) (ixN Y)) (hX : ∀ w, w < L.length → X[w]? = some (ixN X w : Int) ∧ ixN X w < L.length) (hY : ∀ w, w < L.length → Y[w]? = some (ixN Y w : Int) ∧ ixN Y w < L.length) (hl : X.length = L.length) (hl2 : Y.length = L.length) (hL : L.length ≤ 2000) :
    Ct (ctx.plus S) 101 [pB L X Y] 40000000 fun v => v = pn (genZ (prN (ixN X) L.length).length (ell2 X (prN (ixN X) L.length)) (ell3 X Y (prN (ixN X) L.length)) (cuL (ixN X) (ixN Y) (prN (ixN X) L.length)).length) := by
  have he := elliptic_ct S hS (X := X) (Y := Y) hX hY hl hl2 hL
  have hp := pairs_ct S hS (X := X) (Y := Y) hX hl hL
  have hc := cusps_ct S hS hx hX hY hl hl2 hL
  have b1 : (prN (ixN X) L.length).length ≤ L.length := prN_len
  have b2 : ell2 X (prN (ixN X) L.length) ≤ (prN (ixN X) L.length).length := cntF_le
  have b3 : ell3 X Y (prN (ixN X) L.length) ≤ (prN (ixN X) L.length).length := cntF_le
  have b4 : (cuL (ixN X) (ixN Y) (prN (ixN X) L.length)).length ≤ (prN (ixN X) L.length).length := by
    unfold cuL
    rw [List.length_map]
    exact List.length_filter_le _ _
  generalize ell2 X (prN (ixN X) L.length) = two at *
  generalize ell3 X Y (prN (ixN X) L.length) = three at *
  generalize cuL (ixN X) (ixN Y) (prN (ixN X) L.length) = C at *
  generalize prN (ixN X) L.length = P at *
  refine ct_of (hS 101 (by decide)) fn101 ?_
  refine ⟨by omega, ?_⟩
  refine ⟨_, rfl, ?_⟩
  refine callq rfl he (by omega) ?_
  rintro _ rfl
  refine ⟨by kernel_rfl, ?_⟩
  refine ⟨_, rfl, rfl, ?_⟩
  refine callq rfl hp (by omega) ?_
  rintro _ rfl
  refine ⟨⟨by omega, by omega⟩, ?_⟩
  refine ⟨⟨by omega, by omega⟩, ?_⟩
  refine ⟨⟨by omega, by omega⟩, ?_⟩
  refine ⟨⟨by omega, by omega⟩, ?_⟩
  refine ⟨_, rfl, rfl, ?_⟩
  refine callq rfl hc (by omega) ?_
  rintro _ rfl
  have hz : ((((P.length : Int) - 3 * two - 4 * three - 6 * C.length).tdiv 12)).natAbs ≤ ((P.length : Int) - 3 * two - 4 * three - 6 * C.length).natAbs := by
    rw [Int.natAbs_tdiv]; exact Nat.div_le_self _ _
  refine ⟨⟨by omega, by omega⟩, ?_⟩
  refine ⟨⟨by omega, by omega⟩, ?_⟩
  refine ⟨⟨by decide, by unfold In64; omega⟩, ?_⟩
  refine ⟨⟨by omega, by omega⟩, ?_⟩
  exact endq rfl rfl
end
end Go.PI
