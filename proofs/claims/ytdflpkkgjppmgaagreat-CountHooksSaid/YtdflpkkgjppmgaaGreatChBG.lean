/- Own work of the verifier: CrE CrF CrO CrC. -/
import Derived.Test.YtdflpkkgjppmgaaGreatChBF
set_option linter.all false
set_option exponentiation.threshold 3000
set_option linter.deprecated false
/- WHAT IS LEFT OF A LIST, when it is a partition: of the reference. -/
open Go.Proofs
namespace Go.PI
open IM
set_option maxRecDepth 20000
set_option maxHeartbeats 4000000
variable (S : FuncId → Option (List AV → Heap → Option (AV × Heap)))
theorem fn65 : ctx.fn 65 = some c65 := by kernel_rfl
theorem fn66 : ctx.fn 66 = some c66 := by kernel_rfl
theorem callqu {dr : Bool} {C : Ctx} {c k d : Nat} {σ : List StB} {g : FuncId} {K : PV → List StB → Nat → Prop} {ps : List PV} {Q : TypeId → Nat → Nat → List PV → Prop} (hc : cloAs ps = true) (h : Cfu C g ps d Q) (hk : k + d ≤ c) (hK : ∀ ty n e cs, Q ty n e cs → K (.ownu σ.length n e) (σ ++ [.live ty cs]) (k + d)) : ArgK dr C c k σ g ps K := ⟨.inl (frzAsK_clo hc ⟨⟨d, hk, .inr (.inr ⟨Q, h, hK⟩)⟩⟩)⟩
theorem copyInts_cu (hS : OldO S) {xs : List Int} (hne : xs ≠ []) (hl : xs.length ≤ 100000) : Cfu (ctx.plus S) 65 [pIs xs] 2 fun ty n e cs => ty = 3 ∧ n = xs.length ∧ e = 1 ∧ cs = xs.map pn := by
  have hpos := List.length_pos_iff.2 hne
  refine cu_of (hS 65 (by decide)) fn65 ?_
  refine ⟨by omega, part0 ⟨_, rfl, ?_⟩⟩
  refine ⟨⟨by rw [List.length_map]; show xs.length = xs.length * 1; omega, ⟨by omega, pones_pn xs⟩, by omega, fun h => absurd h (by omega), fun h => ⟨by omega, 3, [], _, rfl, by simp, rfl, ?_⟩⟩⟩
  exact ⟨⟨_, _, _, _, _, rfl, push_get, rfl, by omega, rfl, rfl⟩⟩
theorem copyInts_ct (hS : OldO S) {xs : List Int} (hl : xs.length ≤ 100000) : Ct (ctx.plus S) 65 [pIs xs] 2 fun r => r = pIs xs := by
  refine ct_of (hS 65 (by decide)) fn65 ?_
  refine ⟨by omega, part0 ⟨_, rfl, ?_⟩⟩
  refine appL S (xs := xs) (ys := []) (v := .own 0 0 0 0 1) (.inr (.inl ⟨0, rfl, push_get⟩)) (by omega) (by simp) (by omega) fun v1 σ1 k1 hk1 hk1' hg1 => ?_
  obtain ⟨σ4, hf⟩ := hg1.fz
  exact endf hf rfl
def OkS (ys : List Int) (i : Nat) : Prop := ∀ k, k < i → 0 ≤ ys.getD k 0 ∧ (0 < k → ys.getD k 0 ≤ ys.getD (k - 1) 0)
def tz (ys : List Int) : Nat → Nat
  | 0 => 0
  | k + 1 => if ys.getD k 0 = 0 then tz ys k else k + 1
open Classical in
noncomputable def shrV (ys : List Int) : PV := if OkS ys ys.length then .tup [pIs (ys.take (tz ys ys.length)), .bool true] else .tup [pIs [], .bool false]
theorem okS_next {ys : List Int} {i : Nat} {y : Int} (h : OkS ys i) (hy : ys[i]? = some y) (h0 : 0 ≤ y) (h1 : 0 < i → y ≤ ys.getD (i - 1) 0) : OkS ys (i + 1) := fun k hk => by
  by_cases e : k = i
  · subst e
    rw [getD_of hy]
    exact ⟨h0, h1⟩
  · exact h k (by omega)
theorem shrunk_ct (hS : OldO S) {ys : List Int} (hl : ys.length ≤ 100) (hi : ∀ y ∈ ys, -1000 ≤ y ∧ y ≤ 1000) : Ct (ctx.plus S) 66 [pIs ys] 10 fun r => r = shrV ys := by
  refine ct_of (hS 66 (by decide)) fn66 ?_
  refine ⟨fun m s => ∃ (i : Nat) (T : List PV), s = ⟨T, [], 0⟩ ∧ Gt T 51 [(0, pIs ys), (4, pn i)] ∧ m = ys.length - i ∧ i ≤ ys.length ∧ Hid (OkS ys i), ⟨_, ci ⟨0, _, rfl, ⟨rfl, rfl, rfl, trivial⟩, rfl, Nat.zero_le _, ⟨fun k hk => by omega⟩⟩⟩, ?_⟩
  rintro m s ⟨i, T, rfl, hT, hm, hil, hO⟩
  obtain ⟨J, rfl⟩ := gt_open hT
  clear hT
  refine ⟨fun hlt => ?_, fun hge => ?_⟩
  · obtain ⟨y, hy⟩ := xs_get (xs := ys) (i := i) (by omega)
    have bad : ∀ (h : ¬ OkS ys (i + 1)), shrV ys = .tup [pIs [], .bool false] := fun h => by
      unfold shrV
      rw [if_neg fun h2 => h fun k hk => h2 k (by omega)]
    have hyb := hi y (List.mem_of_getElem? hy)
    refine ⟨by kernel_rfl, ?_⟩
    refine ⟨⟨⟨by omega, by omega⟩, len_map_le (by omega)⟩, ?_⟩
    refine ⟨_, ld (at_map hy) (by show _ * 1 = i; omega), rfl, ?_⟩
    refine ⟨fun hneg => ?_, fun hnn => ?_⟩
    · exact ⟨⟨[], (bad fun h => by have := (h i (by omega)).1; rw [getD_of hy] at this; omega).symm⟩⟩
    · refine ⟨fun hpos => ?_, fun hz => ?_⟩
      · obtain ⟨z, hz⟩ := xs_get (xs := ys) (i := i - 1) (by omega)
        refine ⟨⟨⟨by omega, by omega⟩, len_map_le (by omega)⟩, ?_⟩
        refine ⟨_, ld (at_map hy) (by show _ * 1 = i; omega), rfl, ?_⟩
        refine ⟨⟨by omega, by omega⟩, ?_⟩
        refine ⟨⟨⟨by omega, by omega⟩, len_map_le (by omega)⟩, ?_⟩
        refine ⟨_, ld (at_map hz) (by show _ * 1 = i - 1; omega), rfl, ?_⟩
        refine ⟨fun hgt => ?_, fun hle => ?_⟩
        · exact ⟨⟨[], (bad fun h => by have := (h i (by omega)).2 (by omega); rw [getD_of hy, getD_of hz] at this; omega).symm⟩⟩
        · refine ⟨⟨by omega, by omega⟩, ?_⟩
          exact ⟨_, by omega, ci ⟨i + 1, _, rfl, ⟨rfl, rfl, by show pn _ = pn _; norm_cast, trivial⟩, rfl, by omega, ⟨okS_next hO.h hy (by omega) fun _ => by rw [getD_of hz]; omega⟩⟩⟩
      · refine ⟨⟨by omega, by omega⟩, ?_⟩
        exact ⟨_, by omega, ci ⟨i + 1, _, rfl, ⟨rfl, rfl, by show pn _ = pn _; norm_cast, trivial⟩, rfl, by omega, ⟨okS_next hO.h hy (by omega) fun h => by omega⟩⟩⟩
  · have hin : i = ys.length := by omega
    subst hin
    have hOk := hO.h
    refine ⟨fun m s => ∃ (k : Nat) (T : List PV), s = ⟨T, [], 0⟩ ∧ Gt T 51 [(0, pIs ys), (5, pn k)] ∧ m = k ∧ k ≤ ys.length ∧ tz ys k = tz ys ys.length, ⟨_, ci ⟨ys.length, _, rfl, ⟨rfl, rfl, rfl, trivial⟩, rfl, Nat.le_refl _, rfl⟩⟩, ?_⟩
    rintro m s ⟨k, T, rfl, hT, hm2, hkl, htz⟩
    obtain ⟨J, rfl⟩ := gt_open hT
    clear hT
    have fin : tz ys k = k → shrV ys = .tup [pIs (ys.take k), .bool true] := fun h => by
      unfold shrV
      rw [if_pos hOk, ← htz, h]
    refine ⟨fun hpos => ?_, fun hz => ?_⟩
    · obtain ⟨k1, rfl⟩ : ∃ k1, k = k1 + 1 := ⟨k - 1, by omega⟩
      obtain ⟨z, hz⟩ := xs_get (xs := ys) (i := k1) (by omega)
      refine ⟨⟨by omega, by omega⟩, ?_⟩
      refine ⟨⟨⟨by omega, by omega⟩, len_map_le (by omega)⟩, ?_⟩
      refine ⟨_, ld (at_map hz) (by show _ * 1 = k1; omega), ?_⟩
      refine ⟨fun h0 => ?_, fun hne => ?_⟩
      · refine ⟨⟨by omega, by omega⟩, ?_⟩
        exact ⟨_, by omega, ci ⟨k1, _, rfl, ⟨rfl, rfl, by show pn _ = pn _; congr 1; omega, trivial⟩, rfl, by omega, by
          rw [← htz]
          show _ = (if ys.getD k1 0 = 0 then tz ys k1 else k1 + 1)
          rw [getD_of hz, if_pos h0]⟩⟩
      · have hfin := fin (by
          show (if ys.getD k1 0 = 0 then tz ys k1 else k1 + 1) = _
          rw [getD_of hz, if_neg hne])
        have ea : ((((k1 + 1 : Nat) : Int) : Int).toNat - 0) = (ys.take (k1 + 1)).length := by rw [List.length_take]; omega
        refine ⟨by rw [List.length_map]; show ys.length = ys.length * 1; omega, ⟨by omega, by omega⟩, fun _ => rfl, (ys.take (k1 + 1)).map pn, ?_, ?_⟩
        · rw [List.map_take]; show List.take ((_ - 0) * 1) (List.drop (0 * 1) _) = _; simp
        rw [ea]
        refine callq rfl (copyInts_ct S hS (xs := ys.take (k1 + 1)) (by rw [List.length_take]; omega)) (by omega) ?_
        rintro _ rfl
        exact endsq rfl hfin.symm
    · have hk0 : k = 0 := by omega
      subst hk0
      have hfin := fin rfl
      have ea : ((((0 : Nat) : Int) : Int).toNat - 0) = (ys.take (0)).length := by rw [List.length_take]; omega
      refine ⟨by rw [List.length_map]; show ys.length = ys.length * 1; omega, ⟨by omega, by omega⟩, fun _ => rfl, (ys.take (0)).map pn, ?_, ?_⟩
      · rw [List.map_take]; show List.take ((_ - 0) * 1) (List.drop (0 * 1) _) = _; simp
      rw [ea]
      refine callq rfl (copyInts_ct S hS (xs := ys.take (0)) (by rw [List.length_take]; omega)) (by omega) ?_
      rintro _ rfl
      exact endsq rfl hfin.symm
end Go.PI
/- RIM HOOKS, of the reference. -/
open Go.Proofs
namespace Go.PI
open IM
set_option maxRecDepth 20000
set_option maxHeartbeats 4000000
variable (S : FuncId → Option (List AV → Heap → Option (AV × Heap)))
def Gx (e : TypeId) (v : PV) (σ : List StB) (n : Nat) (cs : List PV) : Prop := cs.length = 2 * n ∧ ((v = .nils ∧ n = 0) ∨ ∃ j, 0 < n ∧ v = .ownu j n 2 ∧ σ[j]? = some (.live e cs))
theorem Gx.nil {e : TypeId} {σ : List StB} : Gx e .nils σ 0 [] := ⟨rfl, .inl ⟨rfl, rfl⟩⟩
theorem Gx.fz {e : TypeId} {v : PV} {σ : List StB} {n : Nat} {cs : List PV} (h : Gx e v σ n cs) : ∃ σ', Fz v σ (.lst n cs) σ' := by
  obtain ⟨hl, ⟨rfl, rfl⟩ | ⟨j, h0, rfl, h⟩⟩ := h
  · have : cs = [] := List.length_eq_zero_iff.1 (by omega)
    subst this
    exact ⟨σ, fzN⟩
  · exact ⟨_, fun K hK => ⟨e, _, _, contOf_live h, ⟨by omega, fun h => by omega⟩, by rw [List.take_of_length_le (by omega)], hK⟩⟩
theorem Gx.keep {e : TypeId} {v : PV} {σ σ' : List StB} {n : Nat} {cs : List PV} (h : Gx e v σ n cs) (k : ∀ (j : Nat) (b : StB), σ[j]? = some b → σ'[j]? = some b) : Gx e v σ' n cs := by
  obtain ⟨hl, ⟨rfl, rfl⟩ | ⟨j, h0, rfl, h⟩⟩ := h
  · exact ⟨hl, .inl ⟨rfl, rfl⟩⟩
  · exact ⟨hl, .inr ⟨j, h0, rfl, k j _ h⟩⟩
theorem Gx.push {e : TypeId} {v : PV} {σ : List StB} {n : Nat} {cs : List PV} {b : StB} (h : Gx e v σ n cs) : Gx e v (σ ++ [b]) n cs :=
  h.keep fun j b hb => by rw [List.getElem?_append_left (List.getElem?_eq_some_iff.1 hb).1]; exact hb
theorem appX2 {C : Ctx} {c k : Nat} {e t tx : TypeId} {rest : List TypeId} {v : PV} {n : Nat} {cs ys : List PV} {i m : Nat} {ty : TypeId} {σ : List StB} {ti xi ei : TI} {K : PV → List StB → Nat → Prop} (hg : Gx e v σ n cs) (hy : ys.length = 2) (ho : pones ys = true) (hx : contOf σ i = some (ty, ys)) (ht : C.ty t = some ti) (htd : ti.desc = .slice e) (htx : C.ty tx = some xi) (he : C.ty e = some ei) (hd : decide (srcOk xi.desc = true ∧ ei.bytes ≤ 2 ^ 10) = true) (hs : ei.size = 2)
    (hl : n ≤ 1000000) (hk : k < c) (hK : ∀ v' σ', Gx e v' σ' (n + 1) (cs ++ ys) → K v' σ' (k + 1)) : AppK C c k σ (t :: tx :: rest) v (.own i 0 1 1 m) K := by
  refine ⟨?_⟩
  obtain ⟨desc, sz, by', z⟩ := ti
  simp only at htd
  subst htd
  unfold pappK
  simp only [ht, htx, he, hd]
  refine ⟨ty, ys, ys, hx, by rw [hs, hy]; omega, by rw [hs, List.drop_zero, List.take_of_length_le (by omega)], ⟨by decide, ho⟩, ?_⟩
  obtain ⟨hcl, hg⟩ := hg
  have hcl2 : (cs ++ ys).length = 2 * (n + 1) := by rw [List.length_append]; omega
  rcases hg with ⟨rfl, rfl⟩ | ⟨j, h0, rfl, h⟩
  · have hc0 : cs = [] := List.length_eq_zero_iff.1 (by omega)
    subst hc0
    refine ⟨(fun h => by cases h), fun _ => ⟨hk, ?_⟩⟩
    rw [hs]
    exact hK _ _ ⟨hcl2, .inr ⟨σ.length, by omega, rfl, by simp⟩⟩
  · refine ⟨⟨by omega, hs.symm, hk⟩, cs, cs ++ ys, h, by rw [hs, hcl]; omega, by rw [hs, List.take_of_length_le (by omega)], ?_⟩
    exact hK _ _ ⟨hcl2, .inr ⟨σ.length, by omega, rfl, by simp⟩⟩
def cutA (xs : List Int) (i k : Nat) : List Int := (List.range xs.length).map fun q => if i ≤ q ∧ q < k then xs.getD (q + 1) 0 - 1 else xs.getD q 0
def cutF (xs : List Int) (n : Nat) (i h : Nat) : List Int := (List.range xs.length).map fun q => if i ≤ q ∧ q < i + h then xs.getD (q + 1) 0 - 1 else if q = i + h then xs.getD i 0 + h - n else xs.getD q 0
theorem cutA_len (xs : List Int) (i k : Nat) : (cutA xs i k).length = xs.length := by simp [cutA]
theorem cutF_len (xs : List Int) (n i h : Nat) : (cutF xs n i h).length = xs.length := by simp [cutF]
theorem cutA_zero (xs : List Int) (i : Nat) : cutA xs i i = xs := by
  apply List.ext_getElem?
  intro q
  by_cases hq : q < xs.length
  · simp only [cutA, List.getElem?_map, List.getElem?_range hq, Option.map_some]
    rw [if_neg (by omega), List.getD_eq_getElem?_getD, List.getElem?_eq_getElem hq]
    rfl
  · rw [List.getElem?_eq_none (by rw [cutA_len]; omega), List.getElem?_eq_none (by omega)]
theorem cutA_get {xs : List Int} {i k q : Nat} (h : q < xs.length) : (cutA xs i k)[q]? = some (if i ≤ q ∧ q < k then xs.getD (q + 1) 0 - 1 else xs.getD q 0) := by simp [cutA, h]
theorem cutF_get {xs : List Int} {n i k q : Nat} (h : q < xs.length) : (cutF xs n i k)[q]? = some (if i ≤ q ∧ q < i + k then xs.getD (q + 1) 0 - 1 else if q = i + k then xs.getD i 0 + k - n else xs.getD q 0) := by simp [cutF, h]
theorem cutA_put {xs : List Int} {i k : Nat} (hi : i ≤ k) (h : k < xs.length) : (cutA xs i k).set k (xs.getD (k + 1) 0 - 1) = cutA xs i (k + 1) := by
  apply List.ext_getElem?
  intro q
  by_cases hq : q < xs.length
  · by_cases hqk : q = k
    · subst hqk
      rw [List.getElem?_set_self (by rw [cutA_len]; exact h), cutA_get h, if_pos (by omega)]
    · rw [List.getElem?_set_ne (fun e => hqk e.symm), cutA_get hq, cutA_get hq]
      by_cases h1 : i ≤ q ∧ q < k
      · rw [if_pos h1, if_pos (by omega)]
      · rw [if_neg h1, if_neg (by omega)]
  · rw [List.getElem?_eq_none (by rw [List.length_set, cutA_len]; omega), List.getElem?_eq_none (by rw [cutA_len]; omega)]
theorem cutA_fin {xs : List Int} {n i h : Nat} (hl : i + h < xs.length) : (cutA xs i (i + h)).set (i + h) (xs.getD i 0 + h - n) = cutF xs n i h := by
  apply List.ext_getElem?
  intro q
  by_cases hq : q < xs.length
  · by_cases hqk : q = i + h
    · subst hqk
      rw [List.getElem?_set_self (by rw [cutA_len]; exact hl), cutF_get hl, if_neg (by omega), if_pos rfl]
    · rw [List.getElem?_set_ne (fun e => hqk e.symm), cutA_get hq, cutF_get hq]
      by_cases h1 : i ≤ q ∧ q < i + h
      · rw [if_pos h1, if_pos h1]
      · rw [if_neg h1, if_neg h1, if_neg hqk]
  · rw [List.getElem?_eq_none (by rw [List.length_set, cutA_len]; omega), List.getElem?_eq_none (by rw [cutF_len]; omega)]
open Classical in
/-- the rim hooks that begin in row i, those of less than m rows besides the first -/
noncomputable def rcs1 (xs : List Int) (n i : Nat) : Nat → List PV
  | 0 => []
  | h + 1 => rcs1 xs n i h ++ if OkS (cutF xs n i h) xs.length ∧ xs.getD i 0 - xs.getD (i + h) 0 + h < n then [pIs ((cutF xs n i h).take (tz (cutF xs n i h) xs.length)), pn h] else []
noncomputable def rcsA (xs : List Int) (n : Nat) : Nat → List PV
  | 0 => []
  | i + 1 => rcsA xs n i ++ rcs1 xs n i (xs.length - i)
open Classical in
theorem rcs1_yes {xs : List Int} {n i h : Nat} (hc : OkS (cutF xs n i h) xs.length ∧ xs.getD i 0 - xs.getD (i + h) 0 + h < n) : rcs1 xs n i (h + 1) = rcs1 xs n i h ++ [pIs ((cutF xs n i h).take (tz (cutF xs n i h) xs.length)), pn h] := by
  show rcs1 xs n i h ++ (if _ then _ else _) = _
  rw [if_pos hc]
open Classical in
theorem rcs1_no {xs : List Int} {n i h : Nat} (hc : ¬ (OkS (cutF xs n i h) xs.length ∧ xs.getD i 0 - xs.getD (i + h) 0 + h < n)) : rcs1 xs n i (h + 1) = rcs1 xs n i h := by
  show rcs1 xs n i h ++ (if _ then _ else _) = _
  rw [if_neg hc, List.append_nil]
theorem fn22 : ctx.fn 22 = some c22 := by kernel_rfl
theorem rrim_ct (hS : OldO S) {xs : List Int} {n : Nat} (hf : Few xs) (hl : xs.length ≤ 40) (hn : n ≤ 20) : Ct (ctx.plus S) 22 [pIs xs, pn n] 40000 fun r => ∃ N, r = .lst N (rcsA xs n xs.length) ∧ (rcsA xs n xs.length).length = 2 * N ∧ N ≤ 2000 := by
  refine ct_of (hS 22 (by decide)) fn22 ?_
  refine ⟨fun m s => ∃ (i b N : Nat) (v : PV) (σ : List StB) (T : List PV), s = ⟨T, σ, b⟩ ∧ Gt T 90 [(0, pIs xs), (1, pn n), (5, v), (6, pn i)] ∧ m = xs.length - i ∧ i ≤ xs.length ∧ b ≤ 20 * (41 * i) ∧ N ≤ 41 * i ∧ Hid (Gx 42 v σ N (rcsA xs n i)), ⟨_, ci ⟨0, 0, 0, .nils, [], _, rfl, ⟨rfl, rfl, rfl, rfl, rfl, trivial⟩, rfl, Nat.zero_le _, Nat.zero_le _, Nat.zero_le _, ⟨Gx.nil⟩⟩⟩, ?_⟩
  rintro m s ⟨i, b, N, v, σ, T, rfl, hT, hm, hi, hb, hN, hg⟩
  obtain ⟨J, rfl⟩ := gt_open hT
  clear hT
  refine ⟨fun hlt => ?_, fun hge => ?_⟩
  · refine ⟨fun m s => ∃ (h b' N' : Nat) (v : PV) (σ : List StB) (T : List PV), s = ⟨T, σ, b'⟩ ∧ Gt T 90 [(0, pIs xs), (1, pn n), (5, v), (6, pn i), (7, pn h)] ∧ m = xs.length - i - h ∧ i + h ≤ xs.length ∧ b' ≤ 20 * (41 * i + h) ∧ N' ≤ 41 * i + h ∧ Hid (Gx 42 v σ N' (rcsA xs n i ++ rcs1 xs n i h)), ⟨_, ci ⟨0, b, N, v, σ, _, rfl, ⟨rfl, rfl, rfl, rfl, rfl, rfl, trivial⟩, rfl, by omega, by omega, by omega, ⟨by simpa [rcs1] using hg.h⟩⟩⟩, ?_⟩
    rintro m s ⟨h, b', N', v, σ, T, rfl, hT, hm2, hih, hb', hN', hg2⟩
    obtain ⟨J, rfl⟩ := gt_open hT
    clear hT
    refine ⟨⟨by omega, by omega⟩, ?_⟩
    refine ⟨fun hlt2 => ?_, fun hge2 => ?_⟩
    · have hlt2' : i + h < xs.length := by omega
      have hne : xs ≠ [] := by
        intro h0
        have : xs.length = 0 := by rw [h0]; rfl
        omega
      obtain ⟨xi, hxi⟩ := xs_get (xs := xs) (i := i) (by omega)
      have hxib := hf.2 xi (List.mem_of_getElem? hxi)
      refine callqu rfl (copyInts_cu S hS hne (by omega)) (by omega) ?_
      rintro ty nn e cs ⟨rfl, rfl, rfl, rfl⟩
      refine ⟨fun m s => ∃ (k : Nat) (T : List PV), s = ⟨T, σ ++ [.live 3 ((cutA xs i k).map pn)], b' + 2⟩ ∧ Gt T 90 [(0, pIs xs), (1, pn n), (5, v), (6, pn i), (7, pn h), (8, .ownu σ.length xs.length 1), (9, pn (xs.getD i 0 - xs.getD k 0 + (k - i : Nat))), (10, pn k)] ∧ m = i + h - k ∧ i ≤ k ∧ k ≤ i + h, ⟨_, ci ⟨i, _, by rw [cutA_zero], ⟨rfl, rfl, rfl, rfl, rfl, rfl, rfl, by show pn _ = pn _; congr 1; omega, rfl, trivial⟩, rfl, by omega, by omega⟩⟩, ?_⟩
      rintro m s ⟨k, T, rfl, hT, hm3, hk1, hk2⟩
      obtain ⟨J, rfl⟩ := gt_open hT
      clear hT
      have hat : (σ ++ [StB.live 3 ((cutA xs i k).map pn)])[σ.length]? = some (.live 3 ((cutA xs i k).map pn)) := push_get
      obtain ⟨xk, hxk⟩ := xs_get (xs := xs) (i := k) (by omega)
      have hxkb := hf.2 xk (List.mem_of_getElem? hxk)
      have gi := getD_of hxi
      have gk := getD_of hxk
      refine ⟨⟨by omega, by omega⟩, ?_⟩
      refine ⟨fun hlt3 => ?_, fun hge3 => ?_⟩
      · obtain ⟨xq, hxq⟩ := xs_get (xs := xs) (i := k + 1) (by omega)
        have hxqb := hf.2 xq (List.mem_of_getElem? hxq)
        have gq := getD_of hxq
        refine ⟨⟨by omega, by omega⟩, ?_⟩
        refine ⟨⟨⟨by omega, by omega⟩, len_map_le (by omega)⟩, ?_⟩
        refine ⟨_, ld (at_map hxq) (by show _ * 1 = k + 1; omega), ?_⟩
        refine ⟨⟨by omega, by omega⟩, ?_⟩
        have hkl : k < xs.length := by omega
        have hput := cutA_put (xs := xs) hk1 hkl
        rw [gq] at hput
        have hat2 : (σ ++ [StB.live 3 ((cutA xs i (k + 1)).map pn)])[σ.length]? = some (.live 3 ((cutA xs i (k + 1)).map pn)) := push_get
        have hgk : (cutA xs i (k + 1))[k]? = some (xq - 1) := by rw [cutA_get hkl, if_pos (by omega), gq]
        refine ⟨⟨by omega, by omega⟩, ?_⟩
        refine ⟨_, _, hat, ⟨rfl, by rw [List.length_map, cutA_len]; show 0 + k * 1 + 1 ≤ _; omega, rfl⟩, _, int_put (j := k) (by show 0 + k * 1 = k; omega) (by rw [cutA_len]; omega), _, rfl, ?_⟩
        rw [hput, push_set]
        refine ⟨by kernel_rfl, ?_⟩
        refine ⟨⟨⟨by omega, by omega⟩, len_map_le (by omega)⟩, ?_⟩
        refine ⟨_, ld (at_map hxk) (by show _ * 1 = k; omega), rfl, ?_⟩
        refine ⟨⟨by omega, by omega⟩, ?_⟩
        refine ⟨⟨by omega, by omega⟩, ?_⟩
        refine ⟨_, load_k rfl rfl (contOf_live hat2) (at_map hgk) (by show 0 + _ * 1 = k; omega), rfl, ?_⟩
        refine ⟨⟨by omega, by omega⟩, ?_⟩
        refine ⟨⟨by omega, by omega⟩, ?_⟩
        exact ⟨_, by omega, ci ⟨k + 1, _, rfl, ⟨rfl, rfl, rfl, rfl, rfl, rfl, rfl, by show pn _ = pn _; congr 1; omega, by show pn _ = pn _; norm_cast, trivial⟩, rfl, by omega, by omega⟩⟩
      · have hkk : k = i + h := by omega
        subst hkk
        refine ⟨⟨by omega, by omega⟩, ?_⟩
        refine ⟨⟨by omega, by omega⟩, ?_⟩
        refine ⟨⟨⟨by omega, by omega⟩, len_map_le (by omega)⟩, ?_⟩
        refine ⟨_, ld (at_map hxk) (by show _ * 1 = i + h; omega), ?_⟩
        refine ⟨⟨by omega, by omega⟩, ?_⟩
        refine ⟨⟨by omega, by omega⟩, ?_⟩
        refine ⟨⟨by omega, by omega⟩, ?_⟩
        have hfin := cutA_fin (n := n) hlt2'
        have eval : xk - ((n : Int) - (xs.getD i 0 - xs.getD (i + h) 0 + ((i + h - i : Nat) : Int))) = xs.getD i 0 + h - n := by omega
        rw [eval]
        refine ⟨_, _, hat, ⟨rfl, by rw [List.length_map, cutA_len]; show 0 + (i + h) * 1 + 1 ≤ _; omega, rfl⟩, _, int_put (j := i + h) (by show 0 + (i + h) * 1 = i + h; omega) (by rw [cutA_len]; omega), _, rfl, ?_⟩
        rw [hfin, push_set]
        have hcl := cutF_len xs n i h
        have hfo : Fz (.ownu σ.length xs.length 1) (σ ++ [StB.live 3 ((cutF xs n i h).map pn)]) (pIs (cutF xs n i h)) ((σ ++ [StB.live 3 ((cutF xs n i h).map pn)]).set σ.length (.frz 3 ((cutF xs n i h).map pn))) := by
          unfold pIs
          rw [hcl]
          exact fun K hK => ⟨3, _, _, push_cont, ⟨by rw [List.length_map]; omega, fun _ => rfl⟩, by rw [List.take_of_length_le (by rw [List.length_map]; omega)], hK⟩
        have hbd : ∀ y ∈ cutF xs n i h, -1000 ≤ y ∧ y ≤ 1000 := fun y hy => by
          unfold cutF at hy
          obtain ⟨q, hq, rfl⟩ := List.mem_map.1 hy
          have gd : ∀ q : Nat, 0 ≤ xs.getD q 0 ∧ xs.getD q 0 ≤ 100 := fun q => by
            rcases Nat.lt_or_ge q xs.length with h1 | h1
            · obtain ⟨z, hz⟩ := xs_get h1
              rw [getD_of hz]
              exact hf.2 z (List.mem_of_getElem? hz)
            · rw [List.getD_eq_getElem?_getD, List.getElem?_eq_none h1]
              decide
          have g1 := gd (q + 1)
          have g2 := gd i
          have g3 := gd q
          split
          · omega
          · split <;> omega
        rw [push_set] at hfo
        refine cal1 hfo (shrunk_ct S hS (by rw [hcl]; omega) hbd) (by omega) ?_
        rintro _ rfl
        have hgv : Gx 42 v (σ ++ [StB.frz 3 ((cutF xs n i h).map pn)]) N' (rcsA xs n i ++ rcs1 xs n i h) := hg2.h.push
        by_cases hO : OkS (cutF xs n i h) xs.length
        · have hsv : shrV (cutF xs n i h) = .tup [pIs ((cutF xs n i h).take (tz (cutF xs n i h) xs.length)), .bool true] := by
            unfold shrV
            rw [hcl, if_pos hO]
          rw [hsv]
          refine ⟨fun hrm => ?_, fun hrm => ?_⟩
          · have e1 := rcs1_yes (xs := xs) (n := n) (i := i) (h := h) ⟨hO, by omega⟩
            refine part2 fzL fzI ⟨_, rfl, ?_⟩
            refine ⟨by omega, partc rfl ⟨_, rfl, ?_⟩⟩
            refine appX2 (e := 42) (ys := [pIs ((cutF xs n i h).take (tz (cutF xs n i h) xs.length)), pn h]) hgv.push rfl rfl push_cont rfl rfl rfl rfl (by kernel_rfl) rfl (by omega) (by omega) fun v1 σ1 hw1 => ?_
            refine ⟨⟨by omega, by omega⟩, ?_⟩
            exact ⟨_, by omega, ci ⟨h + 1, _, N' + 1, v1, _, _, rfl, ⟨rfl, rfl, rfl, rfl, rfl, by show pn _ = pn _; norm_cast, trivial⟩, rfl, by omega, by omega, by omega, ⟨by rw [e1, ← List.append_assoc]; exact hw1⟩⟩⟩
          · have e1 : rcs1 xs n i (h + 1) = rcs1 xs n i h := rcs1_no fun hc => by have := hc.2; omega
            refine ⟨⟨by omega, by omega⟩, ?_⟩
            exact ⟨_, by omega, ci ⟨h + 1, _, N', v, _, _, rfl, ⟨rfl, rfl, rfl, rfl, rfl, by show pn _ = pn _; norm_cast, trivial⟩, rfl, by omega, by omega, by omega, ⟨by rw [e1]; exact hgv⟩⟩⟩
        · have hsv : shrV (cutF xs n i h) = .tup [pIs [], .bool false] := by
            unfold shrV
            rw [hcl, if_neg hO]
          rw [hsv]
          have e1 : rcs1 xs n i (h + 1) = rcs1 xs n i h := rcs1_no fun hc => hO hc.1
          refine ⟨⟨by omega, by omega⟩, ?_⟩
          exact ⟨_, by omega, ci ⟨h + 1, _, N', v, _, _, rfl, ⟨rfl, rfl, rfl, rfl, rfl, by show pn _ = pn _; norm_cast, trivial⟩, rfl, by omega, by omega, by omega, ⟨by rw [e1]; exact hgv⟩⟩⟩
    · have hih2 : i + h = xs.length := by omega
      refine ⟨⟨by omega, by omega⟩, ?_⟩
      have eh : h = xs.length - i := by omega
      exact ⟨_, by omega, ci ⟨i + 1, b', N', v, σ, _, rfl, ⟨rfl, rfl, rfl, rfl, by show pn _ = pn _; norm_cast, trivial⟩, rfl, by omega, by omega, by omega, ⟨by
        have := hg2.h
        rw [eh] at this
        exact this⟩⟩⟩
  · have hin : i = xs.length := by omega
    subst hin
    obtain ⟨σ4, hf4⟩ := hg.h.fz
    exact endf hf4 ⟨N, rfl, hg.h.1, by omega⟩
end Go.PI
/- WHEN A LIST CUT ALONG A RIM IS A PARTITION: the places of the rows. -/
open Go.Proofs
namespace Go.PI
def rp (xs : List Int) (q : Nat) : Int := if q < 20 then xs.getD q 0 + 19 - q else -1
theorem getD_dsc {xs : List Int} (hP : xs.Pairwise fun a b => b ≤ a) {a b : Nat} (h : a ≤ b) (hb : b < xs.length) : xs.getD b 0 ≤ xs.getD a 0 := by
  rcases Nat.lt_or_ge a b with h1 | h1
  · have := List.pairwise_iff_getElem.1 hP a b (by omega) hb h1
    rw [List.getD_eq_getElem?_getD, List.getD_eq_getElem?_getD, List.getElem?_eq_getElem hb, List.getElem?_eq_getElem (by omega)]
    exact this
  · have : a = b := by omega
    subst this
    exact Int.le_refl _
theorem cutF_D {xs : List Int} {n i k q : Nat} (h : q < xs.length) : (cutF xs n i k).getD q 0 = if i ≤ q ∧ q < i + k then xs.getD (q + 1) 0 - 1 else if q = i + k then xs.getD i 0 + k - n else xs.getD q 0 := by
  rw [List.getD_eq_getElem?_getD, cutF_get h]
  rfl
theorem cut_iff {xs : List Int} {n i h : Nat} (hp : ∀ x ∈ xs, 1 ≤ x) (hP : xs.Pairwise fun a b => b ≤ a) (hl : xs.length ≤ 20) (hi : i + h < xs.length) :
    (OkS (cutF xs n i h) xs.length ∧ xs.getD i 0 - xs.getD (i + h) 0 + h < n) ↔ (rp xs i - n < rp xs (i + h) ∧ rp xs (i + h + 1) < rp xs i - n) := by
  have pos : ∀ q, q < xs.length → 1 ≤ xs.getD q 0 := fun q hq => by
    rw [List.getD_eq_getElem?_getD, List.getElem?_eq_getElem hq]
    exact hp _ (List.getElem_mem hq)
  have out : ∀ q, xs.length ≤ q → xs.getD q 0 = 0 := fun q hq => by
    rw [List.getD_eq_getElem?_getD, List.getElem?_eq_none hq]
    rfl
  have dsc : ∀ a b, a ≤ b → b < xs.length → xs.getD b 0 ≤ xs.getD a 0 := fun a b h1 h2 => getD_dsc hP h1 h2
  have e0 : rp xs i = xs.getD i 0 + 19 - i := if_pos (by omega)
  have e1 : rp xs (i + h) = xs.getD (i + h) 0 + 19 - (i + h : Nat) := if_pos (by omega)
  constructor
  · rintro ⟨hO, hr⟩
    refine ⟨by omega, ?_⟩
    have c0 := (hO (i + h) hi).1
    rw [cutF_D hi, if_neg (by omega), if_pos rfl] at c0
    by_cases h2 : i + h + 1 < xs.length
    · have c1 := (hO (i + h + 1) h2).2 (by omega)
      rw [cutF_D h2, if_neg (by omega), if_neg (by omega), show i + h + 1 - 1 = i + h by omega, cutF_D hi, if_neg (by omega), if_pos rfl] at c1
      have e2 : rp xs (i + h + 1) = xs.getD (i + h + 1) 0 + 19 - (i + h + 1 : Nat) := if_pos (by omega)
      omega
    · by_cases h3 : i + h + 1 < 20
      · have e2 : rp xs (i + h + 1) = xs.getD (i + h + 1) 0 + 19 - (i + h + 1 : Nat) := if_pos h3
        rw [out _ (by omega)] at e2
        omega
      · have e2 : rp xs (i + h + 1) = -1 := if_neg h3
        omega
  · rintro ⟨h1, h2⟩
    refine ⟨fun k hk => ?_, by omega⟩
    have hh : 0 ≤ xs.getD i 0 + h - n := by
      by_cases h3 : i + h + 1 < 20
      · have e2 : rp xs (i + h + 1) = xs.getD (i + h + 1) 0 + 19 - (i + h + 1 : Nat) := if_pos h3
        have : 0 ≤ xs.getD (i + h + 1) 0 := by
          by_cases h4 : i + h + 1 < xs.length
          · have := pos _ h4; omega
          · rw [out _ (by omega)]; exact Int.le_refl _
        omega
      · have e2 : rp xs (i + h + 1) = -1 := if_neg h3
        omega
    refine ⟨?_, fun hk0 => ?_⟩
    · rw [cutF_D hk]
      split
      · have := pos (k + 1) (by omega)
        omega
      · split
        · exact hh
        · have := pos k hk
          omega
    · rw [cutF_D hk, cutF_D (show k - 1 < xs.length by omega)]
      have d1 := dsc (k - 1) k (by omega) hk
      rw [show k - 1 + 1 = k by omega]
      by_cases k1 : i ≤ k ∧ k < i + h
      · rw [if_pos k1]
        have d2 := dsc k (k + 1) (by omega) (by omega)
        by_cases k2 : i ≤ k - 1 ∧ k - 1 < i + h
        · rw [if_pos k2]; omega
        · rw [if_neg k2, if_neg (by omega)]; omega
      · rw [if_neg k1]
        by_cases k3 : k = i + h
        · rw [if_pos k3]
          by_cases k2 : i ≤ k - 1 ∧ k - 1 < i + h
          · rw [if_pos k2]
            rw [k3]
            omega
          · rw [if_neg k2, if_neg (by omega)]
            have : k = i := by omega
            have h0 : h = 0 := by omega
            subst this
            omega
        · rw [if_neg k3]
          by_cases k2 : i ≤ k - 1 ∧ k - 1 < i + h
          · omega
          · rw [if_neg k2]
            by_cases k4 : k - 1 = i + h
            · rw [if_pos k4]
              have e2 : rp xs (i + h + 1) = xs.getD (i + h + 1) 0 + 19 - (i + h + 1 : Nat) := if_pos (by omega)
              have ek : k = i + h + 1 := by omega
              rw [ek]
              omega
            · rw [if_neg k4]; exact d1
end Go.PI
/- HOOKS AND DIMENSIONS OF PARTITIONS, of both. -/
open Go.Proofs
namespace Go.PI
open IM
set_option maxRecDepth 20000
set_option maxHeartbeats 4000000
variable (S : FuncId → Option (List AV → Heap → Option (AV × Heap)))
theorem fn53 : ctx.fn 53 = some c53 := by kernel_rfl
theorem fn104 : ctx.fn 104 = some c104 := by kernel_rfl
theorem fn55 : ctx.fn 55 = some c55 := by kernel_rfl
theorem fn20 : ctx.fn 20 = some c20 := by kernel_rfl
def hrA (xs : List Int) (i n k : Nat) : List Int := hrow xs i k ++ List.replicate (n - k) 0
theorem hrA_len {xs : List Int} {i n k : Nat} (h : k ≤ n) : (hrA xs i n k).length = n := by simp [hrA, hrow]; omega
theorem hrA_put {xs : List Int} {i n k : Nat} (h : k < n) : (hrA xs i n k).set k (hk xs i k) = hrA xs i n (k + 1) := by
  unfold hrA
  have e : n - k = (n - (k + 1)) + 1 := by omega
  rw [e, List.replicate_succ, hrow_succ, List.append_assoc, List.singleton_append, List.set_append_right _ _ (by rw [hrow_len]; omega), hrow_len, Nat.sub_self]
  rfl
theorem hooks_ct (hS : OldO S) {xs : List Int} (hf : Few xs) (hl : xs.length ≤ 40) (hD : Dsc xs) : Ct (ctx.plus S) 53 [pIs xs] 1000 fun r => r = pM (hks xs xs.length) := by
  refine ct_of (hS 53 (by decide)) fn53 ?_
  refine callq rfl (conj_ct S hS hf hl hD) (by omega) ?_
  rintro _ rfl
  refine ⟨fun m s => ∃ (i b : Nat) (w : PV) (σ : List StB) (T : List PV), s = ⟨T, σ, b⟩ ∧ Gt T 52 [(3, pIs (cjl xs (hd xs))), (4, w), (13, pIs xs), (14, pn xs.length), (15, pn i)] ∧ m = xs.length - i ∧ i ≤ xs.length ∧ b ≤ 1 + 3 * i ∧ Hid (Gr pIs 22 w σ (hks xs i)), ⟨_, ci ⟨0, 1, .nils, [], _, rfl, ⟨rfl, rfl, rfl, rfl, rfl, rfl, trivial⟩, rfl, Nat.zero_le _, by omega, ⟨Gr.nil⟩⟩⟩, ?_⟩
  rintro m s ⟨i, b, w, σ, T, rfl, hT, hm, hi, hb, hg⟩
  obtain ⟨J, rfl⟩ := gt_open hT
  clear hT
  refine ⟨fun hlt => ?_, fun hge => ?_⟩
  · obtain ⟨x, hx⟩ := xs_get (xs := xs) (i := i) (by omega)
    have hxf := hf.2 x (List.mem_of_getElem? hx)
    have hxD := hD x (List.mem_of_getElem? hx)
    obtain ⟨k0, hk0⟩ : ∃ k0 : Nat, x = k0 := ⟨x.toNat, by omega⟩
    subst hk0
    refine ⟨⟨⟨by omega, by omega⟩, len_map_le (by omega)⟩, ?_⟩
    refine ⟨_, ld (at_map hx) (by show _ * 1 = i; omega), ?_⟩
    refine ⟨by omega, ⟨by omega, by omega, by omega⟩, _, int_zero, ?_⟩
    refine ⟨fun m s => ∃ (j : Nat) (T : List PV), s = ⟨T, σ ++ [.live 3 ((hrA xs i k0 j).map pn)], b + 1⟩ ∧ Gt T 52 [(3, pIs (cjl xs (hd xs))), (4, w), (5, pn i), (6, pn k0), (7, .own σ.length 0 k0 k0 1), (13, pIs xs), (14, pn xs.length), (15, pn i), (23, pn k0), (24, pn j)] ∧ m = k0 - j ∧ j ≤ k0, ⟨_, ci ⟨0, _, rfl, ⟨rfl, rfl, rfl, rfl, rfl, rfl, rfl, rfl, rfl, rfl, rfl, trivial⟩, rfl, Nat.zero_le _⟩⟩, ?_⟩
    rintro m s ⟨j, T, rfl, hT, hm2, hj⟩
    obtain ⟨J, rfl⟩ := gt_open hT
    clear hT
    have hat : (σ ++ [StB.live 3 ((hrA xs i k0 j).map pn)])[σ.length]? = some (.live 3 ((hrA xs i k0 j).map pn)) := push_get
    refine ⟨fun hlt2 => ?_, fun hge2 => ?_⟩
    · have hjn : j < hd xs := by omega
      have hcn := cnt_le xs j
      have hcl := cjl_len xs (hd xs)
      refine ⟨by kernel_rfl, ?_⟩
      refine ⟨⟨by omega, by omega⟩, ?_⟩
      refine ⟨⟨by omega, by omega⟩, ?_⟩
      refine ⟨⟨⟨by omega, by omega⟩, len_map_le (by rw [cjl_len]; omega)⟩, ?_⟩
      refine ⟨_, ld (at_map (cjl_get hjn)) (by show _ * 1 = j; omega), rfl, ?_⟩
      refine ⟨⟨by omega, by omega⟩, ?_⟩
      refine ⟨⟨by omega, by omega⟩, ?_⟩
      refine ⟨⟨by omega, by omega⟩, ?_⟩
      refine ⟨⟨by omega, by omega⟩, ?_⟩
      have ehk : (1 : Int) + ((k0 : Nat) - (j : Nat) - 1) + ((cnt xs j : Nat) - (i : Nat) - 1) = hk xs i j := by unfold hk; rw [getD_of hx]; omega
      rw [ehk]
      refine ⟨⟨by omega, by omega⟩, ?_⟩
      refine ⟨_, _, hat, ⟨rfl, by rw [List.length_map, hrA_len hj]; show 0 + j * 1 + 1 ≤ _; omega, rfl⟩, _, int_put (j := j) (by show 0 + j * 1 = j; omega) (by rw [hrA_len hj]; omega), _, rfl, ?_⟩
      rw [hrA_put (show j < k0 by omega), push_set]
      refine ⟨⟨by omega, by omega⟩, ?_⟩
      exact ⟨_, by omega, ci ⟨j + 1, _, rfl, ⟨rfl, rfl, rfl, rfl, rfl, rfl, rfl, rfl, rfl, rfl, by show pn _ = pn _; norm_cast, trivial⟩, rfl, by omega⟩⟩
    · have hjk : j = k0 := by omega
      subst hjk
      have er : hrA xs i j j = hrow xs i j := by unfold hrA; rw [Nat.sub_self]; simp
      have hrl := hrow_len xs i j
      rw [er]
      have hgw : Gr pIs 22 w ((σ ++ [StB.live 3 ((hrow xs i j).map pn)]).set σ.length (.frz 3 ((hrow xs i j).map pn))) (hks xs i) := hg.h.push.keep fun q bb hq hb => by
        have := hg.h.lt hq
        rw [List.getElem?_set_ne (by omega)]
        exact hb
      have hfo : Fz (.own σ.length 0 j j 1) (σ ++ [StB.live 3 ((hrow xs i j).map pn)]) (pIs (hrow xs i j)) ((σ ++ [StB.live 3 ((hrow xs i j).map pn)]).set σ.length (.frz 3 ((hrow xs i j).map pn))) := by
        have := fz_own (n := j) (c := j) (e := 1) (cs' := (hrow xs i j).map pn) (push_cont (σ0 := σ) (t := 3) (cs := (hrow xs i j).map pn)) (by rw [List.length_map]; omega) (Nat.le_refl _) (List.take_of_length_le (by rw [List.length_map]; omega))
        unfold pIs
        rw [hrl]
        exact this
      refine ⟨by omega, part1 hfo ⟨[pIs (hrow xs i j)], rfl, ?_⟩⟩
      refine appG (f := pIs) (e := 22) (y := hrow xs i j) hgw.push push_cont rfl rfl rfl rfl (by kernel_rfl) rfl rfl (by rw [hks_len]; omega) (by omega) fun w1 σ1 hw1 _ _ => ?_
      refine ⟨⟨by omega, by omega⟩, ?_⟩
      have ej : (xs.getD i 0).toNat = j := by rw [getD_of hx]; omega
      exact ⟨_, by omega, ci ⟨i + 1, _, w1, σ1, _, rfl, ⟨rfl, rfl, rfl, rfl, rfl, by show pn _ = pn _; norm_cast, trivial⟩, rfl, by omega, by omega, ⟨by rw [hks_succ, ej]; exact hw1⟩⟩⟩
  · have hin : i = xs.length := by omega
    subst hin
    obtain ⟨σ4, hf4⟩ := hg.h.fz
    exact endf hf4 rfl
end Go.PI
