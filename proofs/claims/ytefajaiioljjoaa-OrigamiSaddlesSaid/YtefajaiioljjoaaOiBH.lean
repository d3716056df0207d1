/- Own work of the verifier: OgSe OgSf. -/
import Derived.Test.YtefajaiioljjoaaOiBG
import Derived.Test.YtefajaiioljjoaaOiBA
set_option linter.all false
set_option exponentiation.threshold 3000
set_option linter.deprecated false
/- SADDLES of the reference: the order and the vertex of a square. -/
open Go.Proofs
namespace Go.PI
open IM
set_option maxRecDepth 10000
set_option maxHeartbeats 4000000
variable (S : FuncId → Option (List AV → Heap → Option (AV × Heap)))
theorem ordr_fix {n x : Nat} {c c' : Nat → Nat} (h : IsP n c c') (hx : x < n) : (ordr c x : Int) - 1 = 0 ↔ c x = x := by
  obtain ⟨o1, o2, o3, o4⟩ := ordr_spec h hx
  constructor
  · intro e
    have : ordr c x = 1 := by omega
    rw [this] at o2
    exact o2
  · intro e
    by_cases h1 : 1 < ordr c x
    · exact absurd e (o4 1 (by omega) h1)
    · omega
theorem fn98 : ctx.fn 98 = some c98 := by kernel_rfl
theorem order_ct (hS : OldO S) {r u : List Int} {n x : Nat} {f f' g g' : Nat → Nat} (h : IsO r u n f f' g g') (hx : x < n) :
    Ct (ctx.plus S) 98 [pO r u, pn x] 800 fun v => ∃ k : Int, v = pn k ∧ 0 ≤ k ∧ (k = 0 ↔ cmf f f' g g' x = x) := by
  have hn := h.le
  refine ct_of (hS 98 (by decide)) fn98 ?_
  refine ⟨by omega, ?_⟩
  refine ⟨_, rfl, ?_⟩
  refine callq rfl (rcommutator_ct S hS h) (by omega) ?_
  rintro _ rfl
  refine callq rfl (rcycle_ct S hS h.cm (by omega) hx) (by omega) ?_
  rintro _ rfl
  have hl : (cyc (cmf f f' g g') x).length = ordr (cmf f f' g g') x := cyc_len
  obtain ⟨o1, o2, o3, o4⟩ := ordr_spec h.cm hx
  refine ⟨⟨by omega, by omega⟩, ?_⟩
  refine endq rfl ⟨_, rfl, by omega, ?_⟩
  rw [hl]
  exact ordr_fix h.cm hx
theorem idx_nn {xs : List Int} {x : Int} : 0 ≤ idx xs x ↔ x ∈ xs := by
  unfold idx
  split
  · exact ⟨fun _ => ‹_›, fun _ => by omega⟩
  · exact ⟨fun h => absurd h (by decide), fun h => absurd h ‹_›⟩
theorem fn99 : ctx.fn 99 = some c99 := by kernel_rfl
theorem vertexOf_ct (hS : OldO S) {r u : List Int} {n x : Nat} {f f' g g' : Nat → Nat} (h : IsO r u n f f' g g') (hx : x < n) :
    Ct (ctx.plus S) 99 [pO r u, pn x] 10010 fun v => v = pn (vx (cycs n (cmf f f' g g')) x : Nat) := by
  have hn := h.le
  obtain ⟨C, hC⟩ : ∃ C, C = cycs n (cmf f f' g g') := ⟨_, rfl⟩
  have hcl : C.length ≤ n := by rw [hC]; exact cycs_len (Nat.le_refl n)
  have hce : ∀ l ∈ C, l.length ≤ 1000000 := fun l hl => by
    rw [hC] at hl
    have := cycs_mem h.cm l hl
    omega
  obtain ⟨l0, hl0, hx0⟩ := vx_ex h.cm hx
  have hv := rvertices_ct S hS h
  rw [← hC] at hl0 hv ⊢
  have hlt := (List.getElem?_eq_some_iff.1 hl0).1
  refine ct_of (hS 99 (by decide)) fn99 ?_
  refine ⟨by omega, ?_⟩
  refine ⟨_, rfl, ?_⟩
  refine callq rfl hv (by omega) ?_
  rintro _ rfl
  refine ⟨fun m s => ∃ (i : Nat) (T : List PV) (σ : List StB) (b : Nat), s = ⟨T, σ, b⟩ ∧ Gt T 23 [(1, pn x), (5, pM C), (6, pn i)] ∧ m = C.length - i ∧ i ≤ C.length ∧ b ≤ 10001 ∧ Hid (∀ j, j < i → ∀ l, C[j]? = some l → (x : Int) ∉ l), ⟨_, ci ⟨0, _, _, _, rfl, ⟨rfl, rfl, rfl, rfl, trivial⟩, rfl, Nat.zero_le _, by omega, ⟨fun j hj => by omega⟩⟩⟩, ?_⟩
  rintro _ s ⟨i, T, σ, b, rfl, hT, rfl, hi, hb, hn⟩
  obtain ⟨J, rfl⟩ := gt_open hT
  clear hT
  refine ⟨fun hlt => ?_, fun hge => ?_⟩
  · obtain ⟨l, hl⟩ : ∃ l, C[i]? = some l := ⟨_, List.getElem?_eq_getElem (by omega)⟩
    refine ⟨⟨⟨by omega, by omega⟩, len_map_le (by omega)⟩, ?_⟩
    refine ⟨_, ld (at_map hl) (by show _ * 1 = i; omega), ?_⟩
    refine callq rfl (at_ct S hS (xs := l) (x := x) (hce _ (List.mem_of_getElem? hl))) (by omega) ?_
    rintro _ rfl
    refine ⟨fun hm => ?_, fun hm => ?_⟩
    · have hm : 0 ≤ idx l x := hm
      have e : vx C x = i := vx_is ⟨⟨l, hl, idx_nn.1 hm⟩, hn.h⟩
      exact endq rfl (by rw [e]; rfl)
    · have hm : idx l x < 0 := hm
      have hni : (x : Int) ∉ l := fun h => by have := idx_nn.2 h; omega
      refine ⟨⟨by omega, by omega⟩, ?_⟩
      exact ⟨_, by omega, ci ⟨i + 1, _, _, _, rfl, ⟨rfl, rfl, rfl, rfl, trivial⟩, rfl, by omega, by omega, ⟨fun j hj l' hl' => by
        by_cases e : j = i
        · subst e; rw [hl] at hl'; cases hl'; exact hni
        · exact hn.h j (by omega) l' hl'⟩⟩⟩
  · exact absurd hx0 (hn.h _ (by omega) l0 hl0)
end Go.PI
/- SADDLES of the program: the vertex of each square. -/
open Go.Proofs
namespace Go.PI
open IM
set_option maxRecDepth 10000
set_option maxHeartbeats 4000000
variable (S : FuncId → Option (List AV → Heap → Option (AV × Heap)))
open Classical in
theorem cycs_elt {n : Nat} {c c' : Nat → Nat} (hc : IsP n c c') {i : Nat} {l : List Int} {v : Int} (h : (cycs n c)[i]? = some l) (hv : v ∈ l) : ∃ x : Nat, x < n ∧ v = x := by
  obtain ⟨a, -, rfl, a2, -⟩ := cycs_get h
  obtain ⟨y, hy, k, hk⟩ := (mem_cyc hc a2).1 hv
  exact ⟨y, hk ▸ it_lt hc a2 k, hy⟩
theorem fn129 : ctx.fn 129 = some c129 := by kernel_rfl
theorem corners_ct (hS : OldO S) {r u : List Int} {n : Nat} {f f' g g' : Nat → Nat} (h : IsO r u n f f' g g') :
    Ct (ctx.plus S) 129 [pO r u] 10010 fun v => v = pIs (PL n (vx (cycs n (cmf f f' g g')))) := by
  have hn := h.le
  have h0 := h.pos
  have hrl := h.l1.1
  obtain ⟨C, hC⟩ : ∃ C, C = cycs n (cmf f f' g g') := ⟨_, rfl⟩
  have hcl : C.length ≤ n := by rw [hC]; exact cycs_len (Nat.le_refl n)
  have hce : ∀ l ∈ C, l.length ≤ n := fun l hl => by
    rw [hC] at hl
    exact cycs_mem h.cm l hl
  have hel : ∀ (i : Nat) (l : List Int) (v : Int), C[i]? = some l → v ∈ l → ∃ x : Nat, x < n ∧ v = x ∧ vx C x = i := fun i l v hl hv => by
    rw [hC] at hl
    obtain ⟨x, hx, rfl⟩ := cycs_elt h.cm hl hv
    exact ⟨x, hx, rfl, by rw [hC]; exact vx_cyc h.cm hl hv⟩
  have hex : ∀ x, x < n → ∃ l, C[vx C x]? = some l ∧ (x : Int) ∈ l := fun x hx => by rw [hC]; exact vx_ex h.cm hx
  have hv := vertices_ct S hS h
  rw [← hC] at hv ⊢
  have HEL : Hid (∀ (i : Nat) (l : List Int) (v : Int), C[i]? = some l → v ∈ l → ∃ x : Nat, x < n ∧ v = x ∧ vx C x = i) := ⟨hel⟩
  have HEX : Hid (∀ x, x < n → ∃ l, C[vx C x]? = some l ∧ (x : Int) ∈ l) := ⟨hex⟩
  clear hel hex hC
  refine ct_of (hS 129 (by decide)) fn129 ?_
  refine ⟨by omega, ?_⟩
  refine ⟨_, rfl, ?_⟩
  refine ⟨by omega, ⟨by omega, by omega, by omega⟩, _, int_zero, ?_⟩
  refine ⟨_, rfl, ?_⟩
  refine callq rfl hv (by omega) ?_
  rintro _ rfl
  refine ⟨fun m s => ∃ (i : Nat) (ys : List Int) (T : List PV), s = ⟨T, [.live 24 [pIs r, pIs u], .live 3 (ys.map pn)], 10002⟩ ∧ Gt T 33 [(3, .own 1 0 r.length r.length 1), (13, pM C), (14, pn C.length), (15, pn i)] ∧ m = C.length - i ∧ i ≤ C.length ∧ Hid (ys.length = n ∧ ∀ x : Nat, x < n → vx C x < i → ys[x]? = some (vx C x : Int)), ⟨_, ci ⟨0, _, _, rfl, ⟨rfl, rfl, rfl, rfl, rfl, trivial⟩, rfl, Nat.zero_le _, ⟨by simp [hrl], fun x hx hv => by omega⟩⟩⟩, ?_⟩
  rintro _ s ⟨i, ys, T, rfl, hT, rfl, hi, hy⟩
  obtain ⟨J, rfl⟩ := gt_open hT
  clear hT
  refine ⟨fun hlt => ?_, fun hge => ?_⟩
  · obtain ⟨l, hl⟩ : ∃ l, C[i]? = some l := ⟨_, List.getElem?_eq_getElem (by omega)⟩
    have hll := hce l (List.mem_of_getElem? hl)
    refine ⟨⟨⟨by omega, by omega⟩, len_map_le (by omega)⟩, ?_⟩
    refine ⟨_, ld (at_map hl) (by show _ * 1 = i; omega), ?_⟩
    refine ⟨fun m s => ∃ (j : Nat) (ys : List Int) (T : List PV), s = ⟨T, [.live 24 [pIs r, pIs u], .live 3 (ys.map pn)], 10002⟩ ∧ Gt T 33 [(3, .own 1 0 r.length r.length 1), (4, pn i), (13, pM C), (14, pn C.length), (15, pn i), (20, pIs l), (21, pn l.length), (22, pn j)] ∧ m = l.length - j ∧ j ≤ l.length ∧ Hid (ys.length = n ∧ (∀ x : Nat, x < n → vx C x < i → ys[x]? = some (vx C x : Int)) ∧ ∀ k, k < j → ∀ x : Nat, l[k]? = some (x : Int) → ys[x]? = some (i : Int)), ⟨_, ci ⟨0, _, _, rfl, ⟨rfl, rfl, rfl, rfl, rfl, rfl, rfl, rfl, rfl, trivial⟩, rfl, Nat.zero_le _, ⟨hy.h.1, hy.h.2, fun k hk => by omega⟩⟩⟩, ?_⟩
    rintro _ s ⟨j, zs, T, rfl, hT, rfl, hj, hz⟩
    obtain ⟨J2, rfl⟩ := gt_open hT
    clear hT
    refine ⟨fun hlt2 => ?_, fun hge2 => ?_⟩
    · obtain ⟨e, he⟩ := xs_get (xs := l) (i := j) (by omega)
      obtain ⟨x, hx, rfl, hxi⟩ := HEL.h i l e hl (List.mem_of_getElem? he)
      have hzl := hz.h.1
      refine ⟨⟨⟨by omega, by omega⟩, len_map_le (by omega)⟩, ?_⟩
      refine ⟨_, ld (at_map he) (by show _ * 1 = j; omega), ?_⟩
      refine ⟨⟨by omega, by omega⟩, ?_⟩
      refine ⟨_, _, rfl, ⟨rfl, by rw [List.length_map]; show 0 + x * 1 + 1 ≤ _; omega, rfl⟩, _, int_put (j := x) (by show 0 + x * 1 = x; omega) (by omega), _, rfl, ?_⟩
      refine ⟨⟨by omega, by omega⟩, ?_⟩
      refine ⟨_, by omega, ci ⟨j + 1, _, _, rfl, ⟨rfl, rfl, rfl, rfl, rfl, rfl, rfl, rfl, rfl, trivial⟩, rfl, by omega, ⟨by simp [hzl], fun y hy2 hv2 => ?_, fun k hk y hky => ?_⟩⟩⟩
      · rw [List.getElem?_set_ne (fun e => by subst e; omega)]
        exact hz.h.2.1 y hy2 hv2
      · by_cases hyx : x = y
        · subst hyx
          rw [List.getElem?_set_self (by omega)]
        · rw [List.getElem?_set_ne hyx]
          refine hz.h.2.2 k ?_ y hky
          by_cases hkj : k = j
          · subst hkj
            rw [he] at hky
            have hxy : (x : Int) = y := by simpa using hky
            exact absurd (by omega) hyx
          · omega
    · refine ⟨⟨by omega, by omega⟩, ?_⟩
      refine ⟨_, by omega, ci ⟨i + 1, _, _, rfl, ⟨rfl, rfl, rfl, rfl, rfl, trivial⟩, rfl, by omega, ⟨hz.h.1, fun x hx hv2 => ?_⟩⟩⟩
      by_cases hvi : vx C x = i
      · obtain ⟨l', hl', hxm⟩ := HEX.h x hx
        rw [hvi] at hl'
        rw [hl] at hl'
        cases hl'
        obtain ⟨k, hk⟩ := List.getElem?_of_mem hxm
        have hkl := (List.getElem?_eq_some_iff.1 hk).1
        rw [hvi]
        exact hz.h.2.2 k (by omega) x hk
      · exact hz.h.2.1 x hx (by omega)
  · refine endf (fz_ints (xs := ys) rfl (by rw [hy.h.1, hrl])) ?_
    rw [PL_ext (f := vx C) hy.h.1 fun j hj => ?_]
    refine hy.h.2 j hj ?_
    obtain ⟨l', hl', -⟩ := HEX.h j hj
    have := (List.getElem?_eq_some_iff.1 hl').1
    omega
end Go.PI
