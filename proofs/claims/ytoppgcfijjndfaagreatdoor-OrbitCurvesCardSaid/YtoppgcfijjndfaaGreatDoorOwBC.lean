/- Own work of the verifier: OrCd OrCe OrCf OrCg OrCh OrCi. -/
import Derived.Test.YtoppgcfijjndfaaGreatDoorOwBB
set_option linter.all false
set_option exponentiation.threshold 3000
set_option linter.deprecated false
/- ONE MEMBER OF AN ORBIT CHECKED, by the program. -/
open Go.Proofs
namespace Go.PI
open IM
set_option maxRecDepth 10000
set_option maxHeartbeats 4000000
variable (S : FuncId → Option (List AV → Heap → Option (AV × Heap)))
structure OW (r u : List Int) where
  n : Nat
  f : Nat → Nat
  f' : Nat → Nat
  g : Nat → Nat
  g' : Nat → Nat
  h : IsO r u n f f' g g'
noncomputable def ow {r u : List Int} (h : chkO r u = 0) : OW r u := Classical.choice (by
  obtain ⟨n, f, f', g, g', h⟩ := chkO_ok h
  exact ⟨⟨n, f, f', g, g', h⟩⟩)
noncomputable def OW.R {r u : List Int} (w : OW r u) : List Int := Rs w.f w.g w.n (bst w.f w.g w.n w.n)
noncomputable def OW.U {r u : List Int} (w : OW r u) : List Int := Us w.f w.g w.n (bst w.f w.g w.n w.n)
open Classical in
/-- what is wrong with the origami r, u of an orbit whose first one has n0 squares; q is what stands before it -/
noncomputable def okO (n0 : Nat) (q : Option (List Int × List Int)) (r u : List Int) : Int :=
  if h : chkO r u = 0 then
    if r.length ≠ n0 then 10 else if ¬ Conn (ow h).n (ow h).f (ow h).g then 16 else if ¬ ((ow h).R = r ∧ (ow h).U = u) then 3
    else match q with
      | some p => if Lt (p.1 ++ p.2) (r ++ u) then 0 else 9
      | none => 0
  else chkO r u
theorem okO_bad {n0 : Nat} {q : Option (List Int × List Int)} {r u : List Int} (h : chkO r u ≠ 0) : okO n0 q r u = chkO r u := by unfold okO; rw [dif_neg h]
theorem okO_len {n0 : Nat} {q : Option (List Int × List Int)} {r u : List Int} (h : chkO r u = 0) (h1 : r.length ≠ n0) : okO n0 q r u = 10 := by unfold okO; rw [dif_pos h, if_pos h1]
theorem okO_con {n0 : Nat} {q : Option (List Int × List Int)} {r u : List Int} (h : chkO r u = 0) (h1 : r.length = n0) (h2 : ¬ Conn (ow h).n (ow h).f (ow h).g) : okO n0 q r u = 16 := by unfold okO; rw [dif_pos h, if_neg (fun x => x h1), if_pos h2]
theorem okO_lab {n0 : Nat} {q : Option (List Int × List Int)} {r u : List Int} (h : chkO r u = 0) (h1 : r.length = n0) (h2 : Conn (ow h).n (ow h).f (ow h).g) (h3 : ¬ ((ow h).R = r ∧ (ow h).U = u)) : okO n0 q r u = 3 := by unfold okO; rw [dif_pos h, if_neg (fun x => x h1), if_neg (fun x => x h2), if_pos h3]
open Classical in
theorem okO_ord {n0 : Nat} {q : Option (List Int × List Int)} {r u : List Int} (h : chkO r u = 0) (h1 : r.length = n0) (h2 : Conn (ow h).n (ow h).f (ow h).g) (h3 : (ow h).R = r ∧ (ow h).U = u) : okO n0 q r u = (match q with
    | some p => if Lt (p.1 ++ p.2) (r ++ u) then 0 else 9
    | none => 0) := by unfold okO; rw [dif_pos h, if_neg (fun x => x h1), if_neg (fun x => x h2), if_neg (fun x => x h3)]
theorem flO_0 {L : List (List Int × List Int)} {r0 u0 : List Int} (h : L[0]? = some (r0, u0)) : (flO L)[0]? = some (pIs r0) := by
  match L, h with
  | p :: L', h =>
    simp at h
    subst h
    rfl
theorem okO_less {n0 : Nat} {p : List Int × List Int} {r u : List Int} (h : chkO r u = 0) (h1 : r.length = n0) (h2 : Conn (ow h).n (ow h).f (ow h).g) (h3 : (ow h).R = r ∧ (ow h).U = u) (h4 : Lt (p.1 ++ p.2) (r ++ u)) : okO n0 (some p) r u = 0 := by rw [okO_ord h h1 h2 h3]; simp only; rw [if_pos h4]
theorem okO_not {n0 : Nat} {p : List Int × List Int} {r u : List Int} (h : chkO r u = 0) (h1 : r.length = n0) (h2 : Conn (ow h).n (ow h).f (ow h).g) (h3 : (ow h).R = r ∧ (ow h).U = u) (h4 : ¬ Lt (p.1 ++ p.2) (r ++ u)) : okO n0 (some p) r u = 9 := by rw [okO_ord h h1 h2 h3]; simp only; rw [if_neg h4]
theorem fn94 : ctx.fn 94 = some c94 := by kernel_rfl
theorem checkLabel_ct (hS : OldO S) {L : List (List Int × List Int)} {i : Nat} {r u r0 u0 : List Int} (hL : L.length ≤ 2000) (hi : L[i]? = some (r, u)) (h0 : L[0]? = some (r0, u0)) (l1 : r.length ≤ 1000000) (l2 : u.length ≤ 1000000) (l3 : r0.length ≤ 1000000)
    {q : Option (List Int × List Int)} (hq : (i = 0 ∧ q = none) ∨ ∃ p, q = some p ∧ 0 < i ∧ L[i - 1]? = some p ∧ p.1.length = r0.length ∧ p.2.length = r0.length) :
    Ct (ctx.plus S) 94 [pOs L, pn i] 2010200 fun w => w = pn (okO r0.length q r u) := by
  have hiL : i < L.length := (List.getElem?_eq_some_iff.1 hi).1
  refine ct_of (hS 94 (by decide)) fn94 ?_
  refine ⟨⟨⟨by omega, by show (i : Int) < (L.length : Nat); omega⟩, os_ix hiL⟩, ?_⟩
  refine ⟨_, os_at hi (by show _ * 2 = _; omega), ?_⟩
  refine ⟨by omega, ?_⟩
  refine ⟨_, _, push_get, ⟨rfl, Nat.le_of_ble_eq_true rfl, rfl⟩, _, rfl, _, rfl, ?_⟩
  refine ⟨_, rfl, ?_⟩
  refine callq rfl (check_ct S hS l1 l2) (by omega) ?_
  rintro _ rfl
  refine ⟨fun hb => ?_, fun hb => ?_⟩
  · exact endq rfl (by rw [okO_bad hb])
  have hb : chkO r u = 0 := hb
  obtain ⟨w, hw⟩ : ∃ w, w = ow hb := ⟨_, rfl⟩
  have hn := w.h.le
  have hl := w.h.l1
  refine ⟨by kernel_rfl, ?_⟩
  refine ⟨_, rfl, rfl, ?_⟩
  refine ⟨⟨⟨by omega, by show (0 : Int) < (L.length : Nat); omega⟩, os_ix (by omega)⟩, ?_⟩
  refine ⟨?_, _, ld (flO_0 h0) (by rfl), rfl, ?_⟩
  · exact Nat.zero_le _
  refine ⟨fun hne => ?_, fun heq => ?_⟩
  · have hne : r.length ≠ r0.length := fun e => hne (by show ((r.length : Nat) : Int) = (r0.length : Nat); rw [e])
    exact endq rfl (by rw [okO_len hb hne])
  have heq : r.length = r0.length := by have h : ((r.length : Nat) : Int) = (r0.length : Nat) := heq; omega
  refine ⟨_, rfl, ?_⟩
  refine callq rfl (labelAll_ok S hS w.h) (by omega) ?_
  rintro _ (⟨hc, rfl⟩ | ⟨hc, rfl⟩)
  · refine ⟨by omega, ?_⟩
    refine ⟨_, _, push_get, ⟨rfl, Nat.le_of_ble_eq_true rfl, rfl⟩, _, rfl, _, rfl, ?_⟩
    refine ⟨fun _ => ?_, fun h => absurd h (by decide)⟩
    exact endq rfl (by rw [okO_con hb heq (by rw [← hw]; exact hc)])
  have hc2 : Conn (ow hb).n (ow hb).f (ow hb).g := by rw [← hw]; exact hc
  refine ⟨by omega, ?_⟩
  refine ⟨_, _, push_get, ⟨rfl, Nat.le_of_ble_eq_true rfl, rfl⟩, _, rfl, _, rfl, ?_⟩
  refine ⟨fun h => absurd rfl h, fun _ => ?_⟩
  refine ⟨_, rfl, ?_⟩
  refine ⟨_, rfl, ?_⟩
  refine callq rfl (cmpO_ct S hS (R := w.R) (U := w.U) (R' := r) (U' := u) (by rw [hl.1]; exact Rs_len) (by rw [hl.2]; exact Us_len) (by rw [show w.R.length = w.n from Rs_len]; omega) (by rw [show w.U.length = w.n from Us_len]; omega)) (by omega) ?_
  rintro _ ⟨k, rfl, -, k2⟩
  refine ⟨fun hk => ?_, fun hk => ?_⟩
  · have hk : k ≠ 0 := hk
    exact endq rfl (by rw [okO_lab hb heq hc2 (by rw [← hw]; exact fun h => hk (k2.2 h))])
  have hk : k = 0 := hk
  have hlab : (ow hb).R = r ∧ (ow hb).U = u := by rw [← hw]; exact k2.1 hk
  have hor := okO_ord (q := q) hb heq hc2 hlab
  refine ⟨by kernel_rfl, ?_⟩
  refine ⟨fun hi0 => ?_, fun hi0 => ?_⟩
  · have hi0 : (0 : Int) < i := hi0
    rcases hq with ⟨h, -⟩ | ⟨⟨r1, u1⟩, rfl, hip, hp1, q1, q2⟩
    · omega
    refine ⟨⟨by omega, by omega⟩, ?_⟩
    refine ⟨⟨⟨by omega, by show (i : Int) - 1 < (L.length : Nat); omega⟩, by rw [show ((i : Int) - 1).toNat = i - 1 by omega]; exact os_ix (by omega)⟩, ?_⟩
    refine ⟨_, os_at hp1 (by rw [show ((i : Int) - 1).toNat = i - 1 by omega]; show _ * 2 = _; omega), rfl, ?_⟩
    refine ⟨_, rfl, rfl, ?_⟩
    have q1 : r1.length = r0.length := q1
    have q2 : u1.length = r0.length := q2
    refine callq rfl (cmpO_ct S hS (R := r1) (U := u1) (R' := r) (U' := u) (by omega) (by omega) (by omega) (by omega)) (by omega) ?_
    rintro _ ⟨d, rfl, d1, -⟩
    refine ⟨fun hd => ?_, fun hd => ?_⟩
    · have hd : 0 ≤ d := hd
      exact endq rfl (by rw [okO_not hb heq hc2 hlab (fun h => by have := d1.2 h; omega)])
    · have hd : d < 0 := hd
      exact endq rfl (by rw [okO_less hb heq hc2 hlab (d1.1 hd)])
  · have hi0 : (i : Int) ≤ 0 := hi0
    rcases hq with ⟨-, rfl⟩ | ⟨p, -, h, -⟩
    · exact endq rfl (by rw [hor])
    · omega
end Go.PI
/- A SEARCH BY ROUNDS: what is known of its numbers. -/
open Go.Proofs
namespace Go.PI
structure Lv (n s : Nat) (x y : Nat → Nat) (D : List Int) (k v : Nat) : Prop where
  len : D.length = n
  bd : ∀ (w : Nat) (d : Int), D[w]? = some d → d = -1 ∨ (0 ≤ d ∧ d ≤ k + 1)
  rc : ∀ (w : Nat) (d : Int), D[w]? = some d → 0 ≤ d → Rch x y s w
  st : ∃ d : Int, D[s]? = some d ∧ 0 ≤ d
  cl : ∀ (w : Nat) (d : Int), D[w]? = some d → 0 ≤ d → (d < k ∨ (d = k ∧ w < v)) → (∃ e : Int, D[x w]? = some e ∧ 0 ≤ e) ∧ ∃ e : Int, D[y w]? = some e ∧ 0 ≤ e
  lv : ∀ (w : Nat) (d : Int), D[w]? = some d → 0 < d → ∃ w' : Nat, D[w']? = some (d - 1)
variable {n s : Nat} {x y : Nat → Nat} {D : List Int} {k v : Nat}
theorem Lv.put (h : Lv n s x y D k v) {z w : Nat} {e : Int} (hz : D[z]? = some e) (he : e < 0) (hr : Rch x y s z) (hw : D[w]? = some (k : Int)) : Lv n s x y (D.set z (k + 1)) k v := by
  have hzl := (List.getElem?_eq_some_iff.1 hz).1
  have hset : ∀ (q : Nat) (d : Int), (D.set z ((k : Int) + 1))[q]? = some d → (q = z ∧ d = k + 1) ∨ (q ≠ z ∧ D[q]? = some d) := fun q d hq => by
    by_cases hqz : q = z
    · subst hqz
      rw [List.getElem?_set_self hzl] at hq
      exact .inl ⟨rfl, (Option.some.inj hq).symm⟩
    · rw [List.getElem?_set_ne (fun e => hqz e.symm)] at hq
      exact .inr ⟨hqz, hq⟩
  have hget : ∀ (q : Nat) (d : Int), D[q]? = some d → 0 ≤ d → (D.set z ((k : Int) + 1))[q]? = some d := fun q d hq hd => by
    have hqz : z ≠ q := fun e2 => by subst e2; rw [hz] at hq; cases hq; omega
    rw [List.getElem?_set_ne hqz]; exact hq
  refine ⟨by rw [List.length_set]; exact h.len, fun q d hq => ?_, fun q d hq hd => ?_, ?_, fun q d hq hd hc => ?_, fun q d hq hd => ?_⟩
  · rcases hset q d hq with ⟨-, rfl⟩ | ⟨-, hq⟩
    · exact .inr ⟨by omega, by omega⟩
    · exact h.bd q d hq
  · rcases hset q d hq with ⟨rfl, -⟩ | ⟨-, hq⟩
    · exact hr
    · exact h.rc q d hq hd
  · obtain ⟨d, h1, h2⟩ := h.st
    exact ⟨d, hget s d h1 h2, h2⟩
  · rcases hset q d hq with ⟨-, rfl⟩ | ⟨-, hq⟩
    · omega
    · obtain ⟨⟨e1, a1, a2⟩, e2, b1, b2⟩ := h.cl q d hq hd hc
      exact ⟨⟨e1, hget _ _ a1 a2, a2⟩, e2, hget _ _ b1 b2, b2⟩
  · rcases hset q d hq with ⟨-, rfl⟩ | ⟨-, hq⟩
    · exact ⟨w, by rw [hget w k hw (by omega)]; congr 1; omega⟩
    · obtain ⟨w', h1⟩ := h.lv q d hq hd
      exact ⟨w', hget _ _ h1 (by omega)⟩
theorem Lv.skip (h : Lv n s x y D k v) (hv : ∀ d : Int, D[v]? = some d → d = k → (∃ e : Int, D[x v]? = some e ∧ 0 ≤ e) ∧ ∃ e : Int, D[y v]? = some e ∧ 0 ≤ e) : Lv n s x y D k (v + 1) :=
  ⟨h.len, h.bd, h.rc, h.st, fun w d hw hd hc => by
    by_cases e : d = k ∧ w = v
    · obtain ⟨e1, e2⟩ := e
      subst e2
      exact hv d hw e1
    · exact h.cl w d hw hd (by omega), h.lv⟩
theorem Lv.round (h : Lv n s x y D k n) : Lv n s x y D (k + 1) 0 :=
  ⟨h.len, fun w d hw => by rcases h.bd w d hw with h | h; exact .inl h; exact .inr ⟨h.1, by omega⟩, h.rc, h.st, fun w d hw hd hc => h.cl w d hw hd (by
    have := (List.getElem?_eq_some_iff.1 hw).1
    have := h.len
    omega), h.lv⟩
theorem Lv.down (h : Lv n s x y D k v) : ∀ (j : Nat) (w : Nat) (m : Nat), D[w]? = some ((m + j : Nat) : Int) → ∃ w' : Nat, D[w']? = some (m : Int)
  | 0, w, m, hw => ⟨w, hw⟩
  | j + 1, w, m, hw => by
    obtain ⟨w1, h1⟩ := h.lv w _ hw (by omega)
    exact h.down j w1 m (by rw [h1]; congr 1; omega)
theorem Lv.few (h : Lv n s x y D k v) {w : Nat} {d : Int} (hw : D[w]? = some d) : d < n := by
  by_cases hd : d < n
  · exact hd
  · exfalso
    have hlev : ∀ j, j ≤ n → ∃ w' : Nat, D[w']? = some (j : Int) := fun j hj => h.down (d.toNat - j) w j (by rw [hw]; congr 1; omega)
    have hc : ∀ j, ∃ w' : Nat, j ≤ n → D[w']? = some (j : Int) := fun j => by
      by_cases hj : j ≤ n
      · obtain ⟨w', h1⟩ := hlev j hj; exact ⟨w', fun _ => h1⟩
      · exact ⟨0, fun h => absurd h hj⟩
    let W := fun j => (hc j).choose
    have hW : ∀ j, j ≤ n → D[W j]? = some (j : Int) := fun j hj => (hc j).choose_spec hj
    have hnd : ((List.range (n + 1)).map W).Nodup := by
      unfold List.Nodup
      rw [List.pairwise_map]
      refine List.pairwise_lt_range.imp_of_mem fun {a b} ha hb hab e => ?_
      have h1 := hW a (by have := List.mem_range.1 ha; omega)
      have h2 := hW b (by have := List.mem_range.1 hb; omega)
      rw [e, h2] at h1
      have := Option.some.inj h1
      omega
    have hlt : ∀ z ∈ (List.range (n + 1)).map W, z < n := fun z hz => by
      obtain ⟨j, hj, rfl⟩ := List.mem_map.1 hz
      have h1 := hW j (by have := List.mem_range.1 hj; omega)
      have := (List.getElem?_eq_some_iff.1 h1).1
      have := h.len
      omega
    have := len_le_of (m := List.range n) hnd fun z hz => List.mem_range.2 (hlt z hz)
    rw [List.length_map, List.length_range, List.length_range] at this
    omega
theorem Lv.done (h : Lv n s x y D n 0) {w : Nat} (hr : Rch x y s w) : ∃ d : Int, D[w]? = some d ∧ 0 ≤ d := by
  induction hr with
  | refl => exact h.st
  | f hy ih =>
    obtain ⟨d, h1, h2⟩ := ih
    exact (h.cl _ d h1 h2 (.inl (h.few h1))).1
  | g hy ih =>
    obtain ⟨d, h1, h2⟩ := ih
    exact (h.cl _ d h1 h2 (.inl (h.few h1))).2
theorem Lv.minus (h : Lv n s x y D n 0) : (-1 : Int) ∈ D ↔ ¬ ∀ w, w < n → Rch x y s w := by
  constructor
  · intro hm hall
    obtain ⟨w, hw⟩ := List.getElem?_of_mem hm
    have hl := (List.getElem?_eq_some_iff.1 hw).1
    obtain ⟨d, h1, h2⟩ := h.done (hall w (by rw [← h.len]; exact hl))
    rw [hw] at h1
    cases h1
    exact absurd h2 (by decide)
  · intro hn
    by_cases hm : (-1 : Int) ∈ D
    · exact hm
    · refine absurd (fun w hw => ?_) hn
      obtain ⟨d, hd⟩ : ∃ d, D[w]? = some d := ⟨_, List.getElem?_eq_getElem (by rw [h.len]; exact hw)⟩
      rcases h.bd w d hd with e | e
      · subst e; exact absurd (List.mem_of_getElem? hd) hm
      · exact h.rc w d hd e.1
end Go.PI
/- A SEARCH BY ROUNDS, of the reference. -/
open Go.Proofs
namespace Go.PI
open IM
set_option maxRecDepth 10000
set_option maxHeartbeats 4000000
variable (S : FuncId → Option (List AV → Heap → Option (AV × Heap)))
theorem Lv.init {n s : Nat} {x y : Nat → Nat} {D : List Int} (hD : D = List.replicate n (-1)) (hs : s < n) : Lv n s x y (D.set s 0) 0 0 := by
  subst hD
  have hset : ∀ (q : Nat) (d : Int), ((List.replicate n (-1 : Int)).set s 0)[q]? = some d → (q = s ∧ d = 0) ∨ (q ≠ s ∧ d = -1) := fun q d hq => by
    by_cases hqs : q = s
    · subst hqs
      rw [List.getElem?_set_self (by simpa using hs)] at hq
      exact .inl ⟨rfl, (Option.some.inj hq).symm⟩
    · rw [List.getElem?_set_ne (fun e => hqs e.symm), List.getElem?_replicate] at hq
      split at hq
      · exact .inr ⟨hqs, (Option.some.inj hq).symm⟩
      · cases hq
  refine ⟨by simp, fun w d hw => ?_, fun w d hw hd => ?_, ⟨0, by rw [List.getElem?_set_self (by simpa using hs)], by decide⟩, fun w d hw hd hc => ?_, fun w d hw hd => ?_⟩
  · rcases hset w d hw with ⟨-, rfl⟩ | ⟨-, rfl⟩
    · exact .inr ⟨by decide, by decide⟩
    · exact .inl rfl
  · rcases hset w d hw with ⟨rfl, -⟩ | ⟨-, rfl⟩
    · exact .refl
    · omega
  · omega
  · rcases hset w d hw with ⟨-, rfl⟩ | ⟨-, rfl⟩
    · omega
    · omega
theorem set_keep {D : List Int} {z q : Nat} {e d a : Int} (hz : D[z]? = some e) (he : e < 0) (hq : D[q]? = some d) (hd : 0 ≤ d) : (D.set z a)[q]? = some d := by
  have hqz : z ≠ q := fun e2 => by subst e2; rw [hz] at hq; cases hq; omega
  rw [List.getElem?_set_ne hqz]; exact hq
theorem fn97 : ctx.fn 97 = some c97 := by kernel_rfl
theorem rsteps_ct (hS : OldO S) {L : List (List Int × List Int)} {X Y : List Int} {n s : Nat} {x y : Nat → Nat} (hn : n ≤ 2000) (hs : s < n) (hL : L.length = n) (hX : ∀ w, w < n → X[w]? = some (x w : Int) ∧ x w < n) (hY : ∀ w, w < n → Y[w]? = some (y w : Int) ∧ y w < n) (hXl : X.length = n) (hYl : Y.length = n) :
    Ct (ctx.plus S) 97 [pB L X Y, pn s] 10 fun v => ∃ D, v = pIs D ∧ Lv n s x y D n 0 := by
  refine ct_of (hS 97 (by decide)) fn97 ?_
  refine ⟨by omega, ?_⟩
  refine ⟨_, rfl, ?_⟩
  refine ⟨by omega, ⟨by omega, by omega, by omega⟩, _, int_zero, ?_⟩
  refine ⟨fun m st => ∃ (i : Nat) (ys : List Int) (T : List PV), st = ⟨T, [.live 56 [pOs L, pIs X, pIs Y], .live 3 (ys.map pn)], 2⟩ ∧ Gt T 80 [(1, pn s), (2, .optr 0 0), (5, .own 1 0 n n 1), (6, pn i)] ∧ m = n - i ∧ i ≤ n ∧ Hid (ys.length = n ∧ ∀ j : Nat, j < i → ys[j]? = some (-1 : Int)), ⟨_, ci ⟨0, _, _, rfl, ⟨rfl, rfl, rfl, by rw [← hL]; rfl, rfl, trivial⟩, rfl, Nat.zero_le _, ⟨by simp [hL], fun j hj => by omega⟩⟩⟩, ?_⟩
  rintro _ st ⟨i, ys, T, rfl, hT, rfl, hi, hy⟩
  obtain ⟨J, rfl⟩ := gt_open hT
  clear hT
  refine ⟨fun hlt => ?_, fun hge => ?_⟩
  · have hyl := hy.h.1
    refine ⟨⟨by omega, by omega⟩, ?_⟩
    refine ⟨_, _, rfl, ⟨rfl, by rw [List.length_map]; show 0 + i * 1 + 1 ≤ _; omega, rfl⟩, _, int_put (j := i) (y := -1) (by show 0 + i * 1 = i; omega) (by omega), _, rfl, ?_⟩
    refine ⟨⟨by omega, by omega⟩, ?_⟩
    refine ⟨_, by omega, ci ⟨i + 1, _, _, rfl, ⟨rfl, rfl, rfl, rfl, rfl, trivial⟩, rfl, by omega, ⟨by simp [hyl], fun j hj => ?_⟩⟩⟩
    by_cases hji : j = i
    · subst hji
      rw [List.getElem?_set_self (by omega)]
    · rw [List.getElem?_set_ne (fun e => hji e.symm)]
      exact hy.h.2 j (by omega)
  · have hyl := hy.h.1
    have hrep : ys = List.replicate n (-1) := by
      apply List.ext_getElem?
      intro j
      by_cases hj : j < n
      · rw [hy.h.2 j (by omega), List.getElem?_replicate, if_pos hj]
      · rw [List.getElem?_eq_none (by omega), List.getElem?_eq_none (by simp; omega)]
    have hinit := Lv.init (x := x) (y := y) hrep hs
    refine ⟨⟨by omega, by omega⟩, ?_⟩
    refine ⟨_, _, rfl, ⟨rfl, by rw [List.length_map]; show 0 + s * 1 + 1 ≤ _; omega, rfl⟩, _, int_put (j := s) (y := 0) (by show 0 + s * 1 = s; omega) (by omega), _, rfl, ?_⟩
    refine ⟨fun m st => ∃ (k : Nat) (D : List Int) (T : List PV), st = ⟨T, [.live 56 [pOs L, pIs X, pIs Y], .live 3 (D.map pn)], 2⟩ ∧ Gt T 80 [(2, .optr 0 0), (5, .own 1 0 n n 1), (7, pn k)] ∧ m = n - k ∧ k ≤ n ∧ Hid (Lv n s x y D k 0), ⟨_, ci ⟨0, _, _, rfl, ⟨rfl, rfl, rfl, rfl, trivial⟩, rfl, Nat.zero_le _, ⟨hinit⟩⟩⟩, ?_⟩
    rintro _ st ⟨k, D, T, rfl, hT, rfl, hk, hd⟩
    obtain ⟨J2, rfl⟩ := gt_open hT
    clear hT
    refine ⟨fun hlt => ?_, fun hge => ?_⟩
    · refine ⟨fun m st => ∃ (v : Nat) (D : List Int) (T : List PV), st = ⟨T, [.live 56 [pOs L, pIs X, pIs Y], .live 3 (D.map pn)], 2⟩ ∧ Gt T 80 [(2, .optr 0 0), (5, .own 1 0 n n 1), (7, pn k), (8, pn v)] ∧ m = n - v ∧ v ≤ n ∧ Hid (Lv n s x y D k v), ⟨_, ci ⟨0, _, _, rfl, ⟨rfl, rfl, rfl, rfl, rfl, trivial⟩, rfl, Nat.zero_le _, hd⟩⟩, ?_⟩
      clear hd D
      rintro _ st ⟨v, D, T, rfl, hT, rfl, hv, ⟨hd⟩⟩
      obtain ⟨J3, rfl⟩ := gt_open hT
      clear hT
      have hDl := hd.len
      refine ⟨fun hlt2 => ?_, fun hge2 => ?_⟩
      · obtain ⟨d, hDv⟩ := xs_get (xs := D) (i := v) (by omega)
        obtain ⟨hXv, hxn⟩ := hX v (by omega)
        obtain ⟨hYv, hyn⟩ := hY v (by omega)
        refine ⟨⟨by omega, by omega⟩, ?_⟩
        refine ⟨_, load_k rfl rfl (contOf_live rfl) (at_map hDv) (by show 0 + _ * 1 = v; omega), ?_⟩
        refine ⟨fun hne => ?_, fun heq => ?_⟩
        · have hne : d ≠ k := hne
          refine ⟨⟨by omega, by omega⟩, ?_⟩
          exact ⟨_, by omega, ci ⟨v + 1, _, _, rfl, ⟨rfl, rfl, rfl, rfl, rfl, trivial⟩, rfl, by omega, ⟨hd.skip fun d' h1 h2 => by rw [hDv] at h1; cases h1; exact absurd h2 hne⟩⟩⟩
        have heq : d = k := heq
        subst heq
        have hrv := hd.rc v _ hDv (by omega)
        obtain ⟨a, hDx⟩ := xs_get (xs := D) (i := x v) (by omega)
        refine ⟨_, rfl, ?_⟩
        refine ⟨⟨⟨by omega, by omega⟩, len_map_le (by omega)⟩, ?_⟩
        refine ⟨_, ld (at_map hXv) (by show _ * 1 = v; omega), ?_⟩
        refine ⟨⟨by omega, by omega⟩, ?_⟩
        refine ⟨_, load_k rfl rfl (contOf_live rfl) (at_map hDx) (by show 0 + _ * 1 = x v; omega), ?_⟩
        refine ⟨fun hneg => ?_, fun hpos => ?_⟩
        · have hneg : a < 0 := hneg
          refine ⟨_, rfl, ?_⟩
          refine ⟨⟨⟨by omega, by omega⟩, len_map_le (by omega)⟩, ?_⟩
          refine ⟨_, ld (at_map hXv) (by show _ * 1 = v; omega), ?_⟩
          refine ⟨⟨by omega, by omega⟩, ?_⟩
          refine ⟨⟨by omega, by omega⟩, ?_⟩
          refine ⟨_, _, rfl, ⟨rfl, by rw [List.length_map]; show 0 + x v * 1 + 1 ≤ _; omega, rfl⟩, _, int_put (j := x v) (by show 0 + x v * 1 = x v; omega) (by omega), _, rfl, ?_⟩
          have p1 := hd.put hDx hneg (.f hrv) hDv
          have hv1 := set_keep (a := (k : Int) + 1) hDx hneg hDv (by omega)
          have hx1 : ∃ e : Int, (D.set (x v) ((k : Int) + 1))[x v]? = some e ∧ 0 ≤ e := ⟨_, List.getElem?_set_self (by omega), by omega⟩
          obtain ⟨D1, hD1⟩ : ∃ D1, D1 = D.set (x v) ((k : Int) + 1) := ⟨_, rfl⟩
          rw [← hD1] at p1 hv1 hx1 ⊢
          clear hd hDv hDx hD1 hDl
          have hD1l := p1.len
          obtain ⟨c, hDy⟩ := xs_get (xs := D1) (i := y v) (by omega)
          refine ⟨_, rfl, ?_⟩
          refine ⟨⟨⟨by omega, by omega⟩, len_map_le (by omega)⟩, ?_⟩
          refine ⟨_, ld (at_map hYv) (by show _ * 1 = v; omega), ?_⟩
          refine ⟨⟨by omega, by omega⟩, ?_⟩
          refine ⟨_, load_k rfl rfl (contOf_live rfl) (at_map hDy) (by show 0 + _ * 1 = y v; omega), ?_⟩
          refine ⟨fun hneg2 => ?_, fun hpos2 => ?_⟩
          · have hneg2 : c < 0 := hneg2
            refine ⟨_, rfl, ?_⟩
            refine ⟨⟨⟨by omega, by omega⟩, len_map_le (by omega)⟩, ?_⟩
            refine ⟨_, ld (at_map hYv) (by show _ * 1 = v; omega), ?_⟩
            refine ⟨⟨by omega, by omega⟩, ?_⟩
            refine ⟨⟨by omega, by omega⟩, ?_⟩
            refine ⟨_, _, rfl, ⟨rfl, by rw [List.length_map]; show 0 + y v * 1 + 1 ≤ _; omega, rfl⟩, _, int_put (j := y v) (by show 0 + y v * 1 = y v; omega) (by omega), _, rfl, ?_⟩
            have p2 := p1.put hDy hneg2 (.g hrv) hv1
            obtain ⟨e1, hx2, hx3⟩ := hx1
            have hx4 := set_keep (a := (k : Int) + 1) hDy hneg2 hx2 hx3
            have hy4 : (D1.set (y v) ((k : Int) + 1))[y v]? = some ((k : Int) + 1) := List.getElem?_set_self (by omega)
            refine ⟨⟨by omega, by omega⟩, ?_⟩
            exact ⟨_, by omega, ci ⟨v + 1, _, _, rfl, ⟨rfl, rfl, rfl, rfl, rfl, trivial⟩, rfl, by omega, ⟨p2.skip fun d' _ _ => ⟨⟨_, hx4, hx3⟩, _, hy4, by omega⟩⟩⟩⟩
          · have hpos2 : 0 ≤ c := hpos2
            refine ⟨⟨by omega, by omega⟩, ?_⟩
            exact ⟨_, by omega, ci ⟨v + 1, _, _, rfl, ⟨rfl, rfl, rfl, rfl, rfl, trivial⟩, rfl, by omega, ⟨p1.skip fun d' _ _ => ⟨hx1, _, hDy, hpos2⟩⟩⟩⟩
        · have hpos : 0 ≤ a := hpos
          have p1 := hd
          have hv1 := hDv
          have hx1 : ∃ e : Int, D[x v]? = some e ∧ 0 ≤ e := ⟨a, hDx, hpos⟩
          obtain ⟨D1, rfl⟩ : ∃ D1, D1 = D := ⟨_, rfl⟩
          clear hd hDv hDx hDl
          have hD1l := p1.len
          obtain ⟨c, hDy⟩ := xs_get (xs := D1) (i := y v) (by omega)
          refine ⟨_, rfl, ?_⟩
          refine ⟨⟨⟨by omega, by omega⟩, len_map_le (by omega)⟩, ?_⟩
          refine ⟨_, ld (at_map hYv) (by show _ * 1 = v; omega), ?_⟩
          refine ⟨⟨by omega, by omega⟩, ?_⟩
          refine ⟨_, load_k rfl rfl (contOf_live rfl) (at_map hDy) (by show 0 + _ * 1 = y v; omega), ?_⟩
          refine ⟨fun hneg2 => ?_, fun hpos2 => ?_⟩
          · have hneg2 : c < 0 := hneg2
            refine ⟨_, rfl, ?_⟩
            refine ⟨⟨⟨by omega, by omega⟩, len_map_le (by omega)⟩, ?_⟩
            refine ⟨_, ld (at_map hYv) (by show _ * 1 = v; omega), ?_⟩
            refine ⟨⟨by omega, by omega⟩, ?_⟩
            refine ⟨⟨by omega, by omega⟩, ?_⟩
            refine ⟨_, _, rfl, ⟨rfl, by rw [List.length_map]; show 0 + y v * 1 + 1 ≤ _; omega, rfl⟩, _, int_put (j := y v) (by show 0 + y v * 1 = y v; omega) (by omega), _, rfl, ?_⟩
            have p2 := p1.put hDy hneg2 (.g hrv) hv1
            obtain ⟨e1, hx2, hx3⟩ := hx1
            have hx4 := set_keep (a := (k : Int) + 1) hDy hneg2 hx2 hx3
            have hy4 : (D1.set (y v) ((k : Int) + 1))[y v]? = some ((k : Int) + 1) := List.getElem?_set_self (by omega)
            refine ⟨⟨by omega, by omega⟩, ?_⟩
            exact ⟨_, by omega, ci ⟨v + 1, _, _, rfl, ⟨rfl, rfl, rfl, rfl, rfl, trivial⟩, rfl, by omega, ⟨p2.skip fun d' _ _ => ⟨⟨_, hx4, hx3⟩, _, hy4, by omega⟩⟩⟩⟩
          · have hpos2 : 0 ≤ c := hpos2
            refine ⟨⟨by omega, by omega⟩, ?_⟩
            exact ⟨_, by omega, ci ⟨v + 1, _, _, rfl, ⟨rfl, rfl, rfl, rfl, rfl, trivial⟩, rfl, by omega, ⟨p1.skip fun d' _ _ => ⟨hx1, _, hDy, hpos2⟩⟩⟩⟩
      · have hvn : v = n := by omega
        rw [hvn] at hd
        refine ⟨⟨by omega, by omega⟩, ?_⟩
        exact ⟨_, by omega, ci ⟨k + 1, _, _, rfl, ⟨rfl, rfl, rfl, rfl, trivial⟩, rfl, by omega, ⟨hd.round⟩⟩⟩
    · have hkn : k = n := by omega
      have hd2 := hd.h
      rw [hkn] at hd2
      refine endf (fz_ints (xs := D) rfl (by rw [hd2.len])) ⟨D, rfl, hd2⟩
end Go.PI
/- WHETHER ALL ENTRIES ARE MEMBERS. -/
open Go.Proofs
namespace Go.PI
open IM
set_option maxRecDepth 10000
set_option maxHeartbeats 4000000
variable (S : FuncId → Option (List AV → Heap → Option (AV × Heap)))
theorem fn150 : ctx.fn 150 = some c150 := by kernel_rfl
theorem foreign_ct (hS : OldO S) {L : List (List Int × List Int)} {X Y : List Int} {k : Int} (hL : L.length ≤ 2000) : Ct (ctx.plus S) 150 [pn k, .lptr [pOs L, pIs X, pIs Y]] 1 fun w => w = .bool (!decide (0 ≤ k ∧ k ≤ (L.length : Int) - 1)) := by
  refine ct_of (hS 150 (by decide)) fn150 ?_
  refine ⟨_, rfl, ?_⟩
  refine callq rfl (member_ct S hS (L := L) (X := X) (Y := Y) (k := k) hL) (by omega) ?_
  rintro _ rfl
  by_cases h : 0 ≤ k ∧ k ≤ (L.length : Int) - 1
  · rw [decide_eq_true h]; exact endq rfl rfl
  · rw [decide_eq_false h]; exact endq rfl rfl
theorem indexFuncB_ct (hS : OldO S) {xs : List Int} {g d : Nat} {cs : List PV} {P : Int → Bool} (hc : clos cs = true) (hl : xs.length ≤ 1000000) (hg : ∀ x ∈ xs, Ct (ctx.plus S) g (pn x :: cs) 1 fun r => r = .bool (P x)) :
    Ct (ctx.plus S) 196 [pIs xs, .fnc g cs] xs.length fun r => ∃ v : Int, r = pn v ∧ (0 ≤ v ↔ ∃ x ∈ xs, P x = true) := by
  refine ct_of (hS 196 (by decide)) fn196 ?_
  refine ⟨fun m s => ∃ (i b : Nat) (T : List PV), s = ⟨T, [], b⟩ ∧ Gt T 19 [(0, pIs xs), (1, .fnc g cs), (7, pn xs.length), (8, pn i)] ∧ m = xs.length - i ∧ i ≤ xs.length ∧ b ≤ i ∧ Hid (∀ x ∈ xs.take i, P x = false), ⟨_, ci ⟨0, _, _, rfl, ⟨rfl, rfl, rfl, rfl, rfl, trivial⟩, rfl, Nat.zero_le _, Nat.le_refl _, ⟨fun x hx => by simp at hx⟩⟩⟩, ?_⟩
  rintro _ s ⟨i, b, T, rfl, hT, rfl, hi, hb, hn⟩
  obtain ⟨J, rfl⟩ := gt_open hT
  clear hT
  refine ⟨fun hlt => ?_, fun hge => ?_⟩
  · obtain ⟨e, he⟩ := xs_get (xs := xs) (i := i) (by omega)
    have hm := List.mem_of_getElem? he
    refine ⟨⟨⟨by omega, by omega⟩, len_map_le (by omega)⟩, ?_⟩
    refine ⟨_, ld (at_map he) (by show _ * 1 = i; omega), ?_⟩
    refine callq (ps := pn e :: cs) (cloAs_cons rfl hc) (hg e hm) (by omega) ?_
    rintro _ rfl
    cases hp : P e with
    | true => exact endq rfl ⟨i, rfl, fun _ => ⟨e, hm, hp⟩, fun _ => by omega⟩
    | false =>
      refine ⟨⟨by omega, by omega⟩, ?_⟩
      exact ⟨_, by omega, ci ⟨i + 1, _, _, rfl, ⟨rfl, rfl, rfl, rfl, rfl, trivial⟩, rfl, by omega, by omega, ⟨fun x hx => by
        rw [take_snoc he] at hx
        rcases List.mem_append.1 hx with hx | hx
        · exact hn.h x hx
        · rw [List.mem_singleton.1 hx]; exact hp⟩⟩⟩
  · refine endq rfl ⟨-1, rfl, fun h => by omega, fun ⟨x, hx, hp⟩ => ?_⟩
    have := hn.h x (by rw [List.take_of_length_le (by omega)]; exact hx)
    rw [hp] at this
    cases this
theorem containsFuncB_ct (hS : OldO S) {xs : List Int} {g d : Nat} {cs : List PV} {P : Int → Bool} (hc : clos cs = true) (hl : xs.length ≤ 1000000) (hg : ∀ x ∈ xs, Ct (ctx.plus S) g (pn x :: cs) 1 fun r => r = .bool (P x)) :
    Ct (ctx.plus S) 151 [pIs xs, .fnc g cs] xs.length fun r => ((∃ x ∈ xs, P x = true) ∧ r = .bool true) ∨ ((∀ x ∈ xs, P x = false) ∧ r = .bool false) := by
  refine ct_of (hS 151 (by decide)) fn151 ?_
  refine callq (ps := [pIs xs, .fnc g cs]) (by simp only [cloAs, cloA, hc]; rfl) (indexFuncB_ct S hS hc hl hg (d := d)) (by omega) ?_
  rintro _ ⟨v, rfl, hv⟩
  refine ⟨fun h => ?_, fun h => ?_⟩
  · exact endq rfl (.inl ⟨hv.1 h, rfl⟩)
  · exact endq rfl (.inr ⟨fun x hx => by
      cases hp : P x with
      | false => rfl
      | true => exact absurd (hv.2 ⟨x, hx, hp⟩) (by omega), rfl⟩)
end Go.PI
/- ONE NUMBER, REPEATED. -/
open Go.Proofs
namespace Go.PI
open IM
set_option maxRecDepth 10000
set_option maxHeartbeats 4000000
variable (S : FuncId → Option (List AV → Heap → Option (AV × Heap)))
def MulOk : Prop := ∀ n : Nat, n ≤ 2000 → Ct (ctx.plus S) 207 [.int .u64 (1 : Nat), .int .u64 n] 0 fun r => r = .tup [.int .u64 (0 : Nat), .int .u64 n]
def rep2 (n m : Nat) (a : Int) : List Int := List.replicate m a ++ List.replicate (n - m) 0
theorem rep2_len {n m : Nat} {a : Int} (h : m ≤ n) : (rep2 n m a).length = n := by simp [rep2]; omega
theorem rep2_put {n m k : Nat} {a : Int} (h : m + k ≤ n) : pspl ((rep2 n m a).map pn) m ((List.replicate k a).map pn) = (rep2 n (m + k) a).map pn := by
  unfold pspl rep2
  rw [← List.map_take, ← List.map_drop, List.length_map, List.length_replicate, ← List.map_append, ← List.map_append]
  congr 1
  rw [List.take_left' (by simp), List.drop_append, List.length_replicate, List.drop_of_length_le (by simp), List.nil_append, List.drop_replicate, List.replicate_append_replicate, show n - m - (m + k - m) = n - (m + k) by omega]
theorem fn198 : ctx.fn 198 = some c198 := by kernel_rfl
theorem repeatI_cf (hR : S 198 = none) (hM : MulOk S) {a : Int} {n : Nat} (h0 : 0 < n) (hn : n ≤ 2000) : Cfr (ctx.plus S) 198 [pIs [a], pn n] 2 fun ty m cp e cs => ty = 3 ∧ m = n ∧ cp = n ∧ e = 1 ∧ cs = (List.replicate n a).map pn := by
  refine cf_of hR fn198 ?_
  refine ⟨fun h => absurd h (by omega), fun _ => ?_⟩
  have hw : ∀ m : Nat, m ≤ 2000 → IntKind.u64.wrap (m : Int) = m := fun m hm => by
    show (m : Int) % 18446744073709551616 = m
    omega
  have hM2 : Ct (ctx.plus S) 207 [.int .u64 (IntKind.u64.wrap ([a].length : Nat)), .int .u64 (IntKind.u64.wrap (n : Nat))] 0 fun r => r = .tup [.int .u64 (0 : Nat), .int .u64 n] := by
    rw [hw n hn, hw [a].length (by show 1 ≤ 2000; omega)]
    exact hM n hn
  refine callq rfl hM2 (by omega) ?_
  rintro _ rfl
  have hwi : IntKind.i64.wrap (n : Int) = n := wrap64 (by unfold In64; omega)
  refine ⟨rfl, .bool false, rfl, ?_⟩
  refine ⟨rfl, .bool false, by show some (AV.bool (decide ((n : Int) > 9223372036854775807))) = _; rw [decide_eq_false (by omega)], ?_⟩
  have mk : (1 ≤ (n : Int)) := by omega
  refine ⟨by omega, ⟨by rw [hwi]; omega, by rw [hwi]; omega, by rw [hwi]; omega⟩, _, int_zero, ?_⟩
  rw [hwi]
  have hrep : (List.replicate (n : Int).toNat (0 : Int)).length = n := by simp
  have e0 : List.replicate (n : Int).toNat (0 : Int) = rep2 n 0 a := by simp [rep2]
  have hmin : min 1 (n : Int).toNat = 1 := by omega
  refine ⟨rfl, _, _, _, rfl, ⟨by rw [List.length_map, hrep]; show 0 + min 1 (n : Int).toNat * 1 ≤ n; omega, by show min 1 (n : Int).toNat * 1 ≤ 1; omega, ?_⟩, (show pspl ((List.replicate (n : Int).toNat (0 : Int)).map pn) 0 (((pn a) :: []).take (min 1 (n : Int).toNat * 1)) = (rep2 n 1 a).map pn by rw [e0, hmin]; exact rep2_put (m := 0) (k := 1) (by omega)), ?_⟩
  · show pones (((pn a) :: []).take (min 1 (n : Int).toNat * 1)) = true
    rw [hmin]; rfl
  refine ⟨fun q st => ∃ (m : Nat) (T : List PV), st = ⟨T, [.live 3 ((rep2 n m a).map pn)], 1⟩ ∧ Gt T 48 [(7, .own 0 0 n n 1), (8, pn m)] ∧ q = n - m ∧ 1 ≤ m ∧ m ≤ n, ⟨_, ci ⟨1, _, rfl, ⟨rfl, by show PV.own 0 0 (n : Int).toNat (n : Int).toNat 1 = .own 0 0 n n 1; rw [Int.toNat_natCast], by show pn (min 1 (n : Int).toNat : Nat) = pn (1 : Nat); rw [hmin], trivial⟩, rfl, Nat.le_refl _, by omega⟩⟩, ?_⟩
  rintro _ st ⟨m, T, rfl, hT, rfl, hm, hmn⟩
  obtain ⟨J, rfl⟩ := gt_open hT
  clear hT
  refine ⟨fun hlt => ?_, fun hge => ?_⟩
  · refine ⟨by kernel_rfl, ?_⟩
    refine ⟨Nat.le_refl _, ⟨by omega, by omega⟩, m, by rw [if_neg (show n ≠ (m : Int).toNat by rw [Int.toNat_natCast]; omega)]; show 0 + m * 1 = m; omega, ?_⟩
    refine ⟨Nat.le_refl _, ⟨by omega, by omega⟩, 0, by rw [if_neg (by omega)]; rfl, ?_⟩
    have hrl := rep2_len (a := a) hmn
    obtain ⟨k, hk⟩ : ∃ k, k = min m (n - m) := ⟨_, rfl⟩
    have hml : ((rep2 n m a).map pn).length = n := by rw [List.length_map, hrl]
    refine ⟨_, _, (List.replicate m a).map pn, rfl, by rw [hml]; show 0 + m * 1 ≤ n; omega, ?_, ?_⟩
    · show (((rep2 n m a).map pn).drop 0).take (m * 1) = _
      rw [List.drop_zero, Nat.mul_one, ← List.map_take]
      unfold rep2
      rw [List.take_left' (by simp)]
    have htk : ((List.replicate m a).map pn).take (min m (n - m) * 1) = (List.replicate k a).map pn := by
      rw [Nat.mul_one, ← hk, ← List.map_take, List.take_replicate, Nat.min_eq_left (by omega)]
    refine ⟨_, _, (rep2 n (m + k) a).map pn, rfl, ⟨by rw [hml]; show m + min m (n - m) * 1 ≤ n; omega, by show min m (n - m) * 1 ≤ _; rw [List.length_map, List.length_replicate]; omega, by show pones (((List.replicate m a).map pn).take (min m (n - m) * 1)) = true; rw [htk]; exact ones_pn⟩, by show pspl _ m (((List.replicate m a).map pn).take (min m (n - m) * 1)) = _; rw [htk]; exact rep2_put (by omega), ?_⟩
    refine ⟨⟨by omega, by omega⟩, ?_⟩
    refine ⟨n - (m + k), by omega, ci ⟨m + k, _, rfl, ⟨rfl, rfl, by show pn ((m : Int) + (min m (n - m) : Nat)) = pn ((m + k : Nat) : Int); rw [← hk]; congr 1, trivial⟩, rfl, by omega, by omega⟩⟩
  · have hmn2 : m = n := by omega
    rw [hmn2]
    refine ⟨⟨_, _, _, _, _, _, rfl, rfl, rfl, rfl, rfl, ⟨rfl, by simp [rep2]⟩⟩⟩
end Go.PI
/- A SEARCH BY A QUEUE: what is known of its numbers. -/
open Go.Proofs
namespace Go.PI
structure BF (n s : Nat) (x y : Nat → Nat) (D Q : List Int) : Prop where
  len : D.length = n
  ql : Q.length + D.count (-1) ≤ n
  bd : ∀ (w : Nat) (d : Int), D[w]? = some d → d = -1 ∨ (0 ≤ d ∧ d + D.count (-1) ≤ n)
  rc : ∀ (w : Nat) (d : Int), D[w]? = some d → 0 ≤ d → Rch x y s w
  st : ∃ d : Int, D[s]? = some d ∧ 0 ≤ d
  q : ∀ v ∈ Q, ∃ w : Nat, v = w ∧ ∃ d : Int, D[w]? = some d ∧ 0 ≤ d
  cl : ∀ (w : Nat) (d : Int), D[w]? = some d → 0 ≤ d → (w : Int) ∉ Q → (∃ e : Int, D[x w]? = some e ∧ 0 ≤ e) ∧ ∃ e : Int, D[y w]? = some e ∧ 0 ≤ e
variable {n s : Nat} {x y : Nat → Nat} {D Q : List Int}
theorem cnt_set {D : List Int} {z : Nat} {a : Int} (hz : D[z]? = some (-1)) (ha : a ≠ -1) : (D.set z a).count (-1) + 1 = D.count (-1) := by
  obtain ⟨h1, h2⟩ := List.getElem?_eq_some_iff.1 hz
  have hm : (-1 : Int) ∈ D := List.mem_of_getElem? hz
  have hp := List.count_pos_iff.2 hm
  rw [List.count_set h1, h2]
  simp only [beq_self_eq_true, if_true]
  rw [if_neg (by simpa using ha)]
  omega
theorem BF.put (h : BF n s x y D Q) {z w : Nat} {d : Int} (hz : D[z]? = some (-1)) (hr : Rch x y s z) (hw : D[w]? = some d) (hd : 0 ≤ d) : BF n s x y (D.set z (d + 1)) (Q ++ [(z : Int)]) := by
  have hzl := (List.getElem?_eq_some_iff.1 hz).1
  have hc := cnt_set hz (a := d + 1) (by omega)
  have hset : ∀ (q : Nat) (e : Int), (D.set z (d + 1))[q]? = some e → (q = z ∧ e = d + 1) ∨ (q ≠ z ∧ D[q]? = some e) := fun q e hq => by
    by_cases hqz : q = z
    · subst hqz
      rw [List.getElem?_set_self hzl] at hq
      exact .inl ⟨rfl, (Option.some.inj hq).symm⟩
    · rw [List.getElem?_set_ne (fun e => hqz e.symm)] at hq
      exact .inr ⟨hqz, hq⟩
  have hget : ∀ (q : Nat) (e : Int), D[q]? = some e → 0 ≤ e → (D.set z (d + 1))[q]? = some e := fun q e hq he => by
    have hqz : z ≠ q := fun e2 => by subst e2; rw [hz] at hq; cases hq; omega
    rw [List.getElem?_set_ne hqz]; exact hq
  refine ⟨by rw [List.length_set]; exact h.len, by have := h.ql; simp only [List.length_append, List.length_cons, List.length_nil]; omega, fun q e hq => ?_, fun q e hq he => ?_, ?_, fun v hv => ?_, fun q e hq he hnq => ?_⟩
  · rcases hset q e hq with ⟨-, rfl⟩ | ⟨-, hq⟩
    · rcases h.bd w d hw with h1 | h1
      · omega
      · exact .inr ⟨by omega, by omega⟩
    · rcases h.bd q e hq with h1 | h1
      · exact .inl h1
      · exact .inr ⟨h1.1, by omega⟩
  · rcases hset q e hq with ⟨rfl, -⟩ | ⟨-, hq⟩
    · exact hr
    · exact h.rc q e hq he
  · obtain ⟨e, h1, h2⟩ := h.st
    exact ⟨e, hget s e h1 h2, h2⟩
  · rcases List.mem_append.1 hv with hv | hv
    · obtain ⟨w', rfl, e, h1, h2⟩ := h.q v hv
      exact ⟨w', rfl, e, hget w' e h1 h2, h2⟩
    · rw [List.mem_singleton.1 hv]
      exact ⟨z, rfl, d + 1, by rw [List.getElem?_set_self hzl], by omega⟩
  · rcases hset q e hq with ⟨rfl, -⟩ | ⟨-, hq⟩
    · exact absurd (by simp) hnq
    · obtain ⟨⟨e1, a1, a2⟩, e2, b1, b2⟩ := h.cl q e hq he fun hm => hnq (by simp [hm])
      exact ⟨⟨e1, hget _ _ a1 a2, a2⟩, e2, hget _ _ b1 b2, b2⟩
theorem BF.keep (h : BF n s x y D Q) {z q : Nat} {a e : Int} (hz : D[z]? = some (-1)) (hq : D[q]? = some e) (he : 0 ≤ e) : (D.set z a)[q]? = some e := by
  have hqz : z ≠ q := fun e2 => by subst e2; rw [hz] at hq; cases hq; omega
  rw [List.getElem?_set_ne hqz]; exact hq
theorem BF.pop {v : Nat} (h : BF n s x y D ((v : Int) :: Q)) (h1 : ∃ e : Int, D[x v]? = some e ∧ 0 ≤ e) (h2 : ∃ e : Int, D[y v]? = some e ∧ 0 ≤ e) : BF n s x y D Q :=
  ⟨h.len, by have := h.ql; simp only [List.length_cons] at this; omega, h.bd, h.rc, h.st, fun w hw => h.q w (by simp [hw]), fun w d hw hd hn => by
    by_cases e : w = v
    · subst e
      exact ⟨h1, h2⟩
    · exact h.cl w d hw hd (by simp only [List.mem_cons, not_or]; exact ⟨by omega, hn⟩)⟩
theorem BF.init (hD : D = List.replicate n (-1)) (hs : s < n) : BF n s x y (D.set s 0) [(s : Int)] := by
  subst hD
  have hz : (List.replicate n (-1 : Int))[s]? = some (-1) := by simp [hs]
  have hc := cnt_set hz (a := 0) (by decide)
  have hn : (List.replicate n (-1 : Int)).count (-1) = n := List.count_replicate_self
  have hset : ∀ (q : Nat) (d : Int), ((List.replicate n (-1 : Int)).set s 0)[q]? = some d → (q = s ∧ d = 0) ∨ (q ≠ s ∧ d = -1) := fun q d hq => by
    by_cases hqs : q = s
    · subst hqs
      rw [List.getElem?_set_self (by simpa using hs)] at hq
      exact .inl ⟨rfl, (Option.some.inj hq).symm⟩
    · rw [List.getElem?_set_ne (fun e => hqs e.symm), List.getElem?_replicate] at hq
      split at hq
      · exact .inr ⟨hqs, (Option.some.inj hq).symm⟩
      · cases hq
  have hs0 : ((List.replicate n (-1 : Int)).set s 0)[s]? = some 0 := by rw [List.getElem?_set_self (by simpa using hs)]
  refine ⟨by simp, by simp only [List.length_cons, List.length_nil]; omega, fun w d hw => ?_, fun w d hw hd => ?_, ⟨0, hs0, by decide⟩, fun v hv => ?_, fun w d hw hd hn => ?_⟩
  · rcases hset w d hw with ⟨-, rfl⟩ | ⟨-, rfl⟩
    · exact .inr ⟨by decide, by omega⟩
    · exact .inl rfl
  · rcases hset w d hw with ⟨rfl, -⟩ | ⟨-, rfl⟩
    · exact .refl
    · omega
  · rw [List.mem_singleton.1 hv]
    exact ⟨s, rfl, 0, hs0, by decide⟩
  · rcases hset w d hw with ⟨rfl, -⟩ | ⟨-, rfl⟩
    · exact absurd (by simp) hn
    · omega
theorem BF.done (h : BF n s x y D []) {w : Nat} (hr : Rch x y s w) : ∃ d : Int, D[w]? = some d ∧ 0 ≤ d := by
  induction hr with
  | refl => exact h.st
  | f hy ih =>
    obtain ⟨d, h1, h2⟩ := ih
    exact (h.cl _ d h1 h2 (by simp)).1
  | g hy ih =>
    obtain ⟨d, h1, h2⟩ := ih
    exact (h.cl _ d h1 h2 (by simp)).2
theorem BF.minus (h : BF n s x y D []) : (-1 : Int) ∈ D ↔ ¬ ∀ w, w < n → Rch x y s w := by
  constructor
  · intro hm hall
    obtain ⟨w, hw⟩ := List.getElem?_of_mem hm
    have hl := (List.getElem?_eq_some_iff.1 hw).1
    obtain ⟨d, h1, h2⟩ := h.done (hall w (by rw [← h.len]; exact hl))
    rw [hw] at h1
    cases h1
    exact absurd h2 (by decide)
  · intro hn
    by_cases hm : (-1 : Int) ∈ D
    · exact hm
    · refine absurd (fun w hw => ?_) hn
      obtain ⟨d, hd⟩ : ∃ d, D[w]? = some d := ⟨_, List.getElem?_eq_getElem (by rw [h.len]; exact hw)⟩
      rcases h.bd w d hd with e | e
      · subst e; exact absurd (List.mem_of_getElem? hd) hm
      · exact h.rc w d hd e.1
end Go.PI
