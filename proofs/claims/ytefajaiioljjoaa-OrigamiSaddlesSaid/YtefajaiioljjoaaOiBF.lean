/- Own work of the verifier: OgZ OgAa OgAb. -/
import Derived.Test.YtefajaiioljjoaaOiBE
set_option linter.all false
set_option exponentiation.threshold 3000
set_option linter.deprecated false
/- RENUMBERED squares; which of two comes first: of the reference. -/
open Go.Proofs
namespace Go.PI
open IM
set_option maxRecDepth 10000
set_option maxHeartbeats 4000000
variable (S : FuncId → Option (List AV → Heap → Option (AV × Heap)))
def Oren : Opn := ⟨fun t => Nat.beq t 24, fun t => Nat.beq t 24 || Nat.beq t 22, true⟩
theorem fn60 : ctx.fn 60 = some c60 := by kernel_rfl
def RnT (n : Nat) (e' f : Nat → Nat) (i : Nat) (ys : List Int) : Prop := ys.length = n ∧ ∀ j : Nat, j < i → ys[e' j]? = some (e' (f j) : Int)
theorem rnT_next {n : Nat} {e e' f : Nat → Nat} {i : Nat} {ys : List Int} (h : IsP n e e') (hi : i < n) (hy : RnT n e' f i ys) : RnT n e' f (i + 1) (ys.set (e' i) (e' (f i) : Int)) := by
  have hl := h.glt i hi
  refine ⟨by rw [List.length_set]; exact hy.1, fun j hj => ?_⟩
  by_cases hji : j = i
  · subst hji
    rw [List.getElem?_set_self (by have := hy.1; omega)]
  · rw [List.getElem?_set_ne (fun e2 => hji (h.inv.inj (by omega) (by omega) e2.symm))]
    exact hy.2 j (by omega)
theorem rnT_done {n : Nat} {e e' f : Nat → Nat} {ys : List Int} (h : IsP n e e') (hy : RnT n e' f n ys) : ys = PL n (rn e e' f) := by
  refine PL_ext hy.1 fun k hk => ?_
  have := hy.2 (e k) (h.lt k hk)
  rw [h.gf k hk] at this
  exact this
theorem renumber_ct (hS : OldO S) {r u : List Int} {n : Nat} {f f' g g' e e' : Nat → Nat} (ho : IsO r u n f f' g g') (he : IsP n e e') :
    Ct (ctx.plus S) 60 [pO r u, pIs (PL n e')] 200 fun w => w = pO (PL n (rn e e' f)) (PL n (rn e e' g)) := by
  have hn := ho.le
  have hrl := ho.l1.1
  have hul := ho.l1.2
  subst hrl
  have hel : (PL r.length e').length = r.length := PL_len
  have gr : ∀ i, i < r.length → r[i]? = some (f i : Int) := fun i hi => by
    have := ho.hr
    rw [show r[i]? = (PL r.length f)[i]? from congrArg (fun l : List Int => l[i]?) this, PL_get hi]
  have gu : ∀ i, i < r.length → u[i]? = some (g i : Int) := fun i hi => by rw [ho.hu, PL_get hi]
  have ge : ∀ i, i < r.length → (PL r.length e')[i]? = some (e' i : Int) := fun i hi => PL_get hi
  refine ctO_of Oren (hS 60 (by decide)) fn60 ?_
  refine ⟨by omega, ?_⟩
  refine ⟨by omega, ?_⟩
  refine ⟨by kernel_rfl, ?_⟩
  refine ⟨_, load_liv rfl rfl rfl, rfl, ?_⟩
  refine callq rfl (size_ct S hS (r := r) (u := u)) (by omega) ?_
  rintro _ rfl
  refine ⟨by omega, ⟨by omega, by omega, by omega⟩, _, int_zero, ?_⟩
  refine ⟨_, load_liv rfl rfl rfl, rfl, ?_⟩
  refine callq rfl (size_ct S hS (r := r) (u := u)) (by omega) ?_
  rintro _ rfl
  refine ⟨by omega, ⟨by omega, by omega, by omega⟩, _, int_zero, ?_⟩
  refine ⟨_, rfl, ?_⟩
  refine ⟨by omega, ?_⟩
  refine ⟨_, _, rfl, ⟨rfl, by decide, rfl⟩, _, rfl, _, rfl, ?_⟩
  refine ⟨fun q st => ∃ (i b : Nat) (ys zs : List Int) (T : List PV), st = ⟨T, [.liv 24 [pIs r, pIs u], .liv 24 [.nils, .nils], .live 3 (ys.map pn), .live 3 (zs.map pn), .liv 24 [.own 2 0 r.length r.length 1, .own 3 0 r.length r.length 1]], b⟩ ∧ Gt T 51 [(1, pIs (PL r.length e')), (2, .optr 0 0), (4, .optr 1 0), (5, .optr 4 0), (6, pn i)] ∧ q = r.length - i ∧ i ≤ r.length ∧ b ≤ 10 + i ∧ Hid (RnT r.length e' f i ys ∧ RnT r.length e' g i zs), ⟨_, ci ⟨0, _, _, _, _, rfl, ⟨rfl, rfl, rfl, rfl, rfl, rfl, trivial⟩, rfl, Nat.zero_le _, by omega, ⟨⟨by simp, fun j hj => by omega⟩, ⟨by simp, fun j hj => by omega⟩⟩⟩⟩, ?_⟩
  rintro _ st ⟨i, b, ys, zs, T, rfl, hT, rfl, hi, hb, hh⟩
  obtain ⟨J, rfl⟩ := gt_open hT
  clear hT
  obtain ⟨⟨y1, y2⟩, ⟨z1, z2⟩⟩ := hh.h
  refine ⟨_, load_liv rfl rfl rfl, ?_⟩
  refine callq rfl (size_ct S hS (r := r) (u := u)) (by omega) ?_
  rintro _ rfl
  refine ⟨fun hlt => ?_, fun hge => ?_⟩
  · have hin : i < r.length := by omega
    have c1 := ho.pr.lt i hin
    have c2 := ho.pu.lt i hin
    have c3 := he.glt i hin
    refine ⟨by kernel_rfl, ?_⟩
    refine ⟨_, load_liv rfl rfl rfl, rfl, ?_⟩
    refine ⟨⟨⟨by omega, by omega⟩, len_map_le (by omega)⟩, ?_⟩
    refine ⟨_, ld (at_map (ge i hin)) (by show _ * 1 = i; omega), rfl, ?_⟩
    refine ⟨_, load_liv rfl rfl rfl, rfl, ?_⟩
    refine ⟨⟨⟨by omega, by omega⟩, len_map_le (by omega)⟩, ?_⟩
    refine ⟨_, ld (at_map (gr i hin)) (by show _ * 1 = i; omega), rfl, ?_⟩
    refine ⟨⟨⟨by omega, by omega⟩, len_map_le (by omega)⟩, ?_⟩
    refine ⟨_, ld (at_map (ge (f i) c1)) (by show _ * 1 = f i; omega), rfl, ?_⟩
    refine ⟨⟨by omega, by omega⟩, ?_⟩
    refine ⟨_, _, rfl, ⟨rfl, by rw [List.length_map]; show 0 + e' i * 1 + 1 ≤ _; omega, rfl⟩, _, int_put (j := e' i) (by show 0 + e' i * 1 = e' i; omega) (by omega), _, rfl, ?_⟩
    refine ⟨by kernel_rfl, ?_⟩
    refine ⟨_, load_liv rfl rfl rfl, rfl, ?_⟩
    refine ⟨⟨⟨by omega, by omega⟩, len_map_le (by omega)⟩, ?_⟩
    refine ⟨_, ld (at_map (ge i hin)) (by show _ * 1 = i; omega), rfl, ?_⟩
    refine ⟨_, load_liv rfl rfl rfl, rfl, ?_⟩
    refine ⟨⟨⟨by omega, by omega⟩, len_map_le (by omega)⟩, ?_⟩
    refine ⟨_, ld (at_map (gu i hin)) (by show _ * 1 = i; omega), rfl, ?_⟩
    refine ⟨⟨⟨by omega, by omega⟩, len_map_le (by omega)⟩, ?_⟩
    refine ⟨_, ld (at_map (ge (g i) c2)) (by show _ * 1 = g i; omega), rfl, ?_⟩
    refine ⟨⟨by omega, by omega⟩, ?_⟩
    refine ⟨_, _, rfl, ⟨rfl, by rw [List.length_map]; show 0 + e' i * 1 + 1 ≤ _; omega, rfl⟩, _, int_put (j := e' i) (by show 0 + e' i * 1 = e' i; omega) (by omega), _, rfl, ?_⟩
    refine ⟨⟨by omega, by omega⟩, ?_⟩
    exact ⟨_, by omega, ci ⟨i + 1, _, _, _, _, rfl, ⟨rfl, rfl, rfl, rfl, rfl, rfl, trivial⟩, rfl, by omega, by omega, ⟨rnT_next he hin hh.h.1, rnT_next he hin hh.h.2⟩⟩⟩
  · have hin : i = r.length := by omega
    rw [hin] at hh
    have ey := rnT_done he hh.h.1
    have ez := rnT_done he hh.h.2
    refine ⟨_, load_liv rfl rfl rfl, ?_⟩
    refine ⟨_, _, rfl, ⟨rfl, by decide, rfl⟩, _, rfl, _, rfl, ?_⟩
    refine ⟨_, load_liv rfl rfl rfl, ?_⟩
    have h1 := fz_ints (i := 2) (n := r.length) (σ := [.liv 24 [pIs r, pIs u], .liv 24 [.own 2 0 r.length r.length 1, .own 3 0 r.length r.length 1], .live 3 (ys.map pn), .live 3 (zs.map pn), .liv 24 [.own 2 0 r.length r.length 1, .own 3 0 r.length r.length 1]]) (xs := ys) rfl y1
    have h2 := fz_ints (i := 3) (n := r.length) (σ := [.liv 24 [pIs r, pIs u], .liv 24 [.own 2 0 r.length r.length 1, .own 3 0 r.length r.length 1], .frz 3 (ys.map pn), .live 3 (zs.map pn), .liv 24 [.own 2 0 r.length r.length 1, .own 3 0 r.length r.length 1]]) (xs := zs) rfl z1
    have h3 : Fz (.agg [.own 2 0 r.length r.length 1, .own 3 0 r.length r.length 1]) _ (.agg [pIs ys, pIs zs]) _ := fun K hK => h1 _ (h2 _ hK)
    exact endf h3 (by rw [ey, ez]; rfl)
theorem fn103 : ctx.fn 103 = some c103 := by kernel_rfl
end Go.PI
/- WHICH OF TWO LISTS comes first. -/
open Go.Proofs
namespace Go.PI
open IM
set_option maxRecDepth 10000
set_option maxHeartbeats 4000000
variable (S : FuncId → Option (List AV → Heap → Option (AV × Heap)))
theorem fn117 : ctx.fn 117 = some c117 := by kernel_rfl
theorem rless_ct (hS : OldO S) {xs ys : List Int} (hl : xs.length = ys.length) (hx : xs.length ≤ 1000000) : Ct (ctx.plus S) 117 [pIs xs, pIs ys] 0 fun w => (Lt xs ys ∧ w = .bool true) ∨ (¬ Lt xs ys ∧ w = .bool false) := by
  refine ct_of (hS 117 (by decide)) fn117 ?_
  refine ⟨fun m s => ∃ (i : Nat) (T : List PV), s = ⟨T, [], 0⟩ ∧ Gt T 30 [(0, pIs xs), (1, pIs ys), (5, pn i)] ∧ m = xs.length - i ∧ i ≤ xs.length ∧ Hid (Eqs xs ys i), ⟨_, ci ⟨0, _, rfl, ⟨rfl, rfl, rfl, rfl, trivial⟩, rfl, Nat.zero_le _, ⟨rfl⟩⟩⟩, ?_⟩
  rintro _ s ⟨i, T, rfl, hT, rfl, hi, hn⟩
  obtain ⟨J, rfl⟩ := gt_open hT
  clear hT
  refine ⟨fun hlt => ?_, fun hge => ?_⟩
  · obtain ⟨a, ha⟩ := xs_get (xs := xs) (i := i) (by omega)
    obtain ⟨b, hb⟩ := xs_get (xs := ys) (i := i) (by omega)
    refine ⟨by kernel_rfl, ?_⟩
    refine ⟨⟨⟨by omega, by omega⟩, len_map_le (by omega)⟩, ?_⟩
    refine ⟨_, ld (at_map ha) (by show _ * 1 = i; omega), rfl, ?_⟩
    refine ⟨⟨⟨by omega, by omega⟩, len_map_le (by omega)⟩, ?_⟩
    refine ⟨_, ld (at_map hb) (by show _ * 1 = i; omega), rfl, ?_⟩
    refine ⟨fun hne => ?_, fun heq => ?_⟩
    · have hiff := lt_at hn.h ha hb (by omega)
      refine ⟨by kernel_rfl, ?_⟩
      refine ⟨⟨⟨by omega, by omega⟩, len_map_le (by omega)⟩, ?_⟩
      refine ⟨_, ld (at_map ha) (by show _ * 1 = i; omega), rfl, ?_⟩
      refine ⟨⟨⟨by omega, by omega⟩, len_map_le (by omega)⟩, ?_⟩
      refine ⟨_, ld (at_map hb) (by show _ * 1 = i; omega), rfl, ?_⟩
      refine ⟨fun h => ?_, fun h => ?_⟩
      · exact endq rfl (.inl ⟨hiff.2 (by omega), rfl⟩)
      · exact endq rfl (.inr ⟨fun hc => by have := hiff.1 hc; omega, rfl⟩)
    · refine ⟨⟨by omega, by omega⟩, ?_⟩
      exact ⟨_, by omega, ci ⟨i + 1, _, rfl, ⟨rfl, rfl, rfl, rfl, trivial⟩, rfl, by omega, ⟨eqs_next hn.h ha hb (by omega)⟩⟩⟩
  · have he : xs = ys := by
      have := hn.h; unfold Eqs at this
      rwa [List.take_of_length_le (by omega), List.take_of_length_le (by omega)] at this
    exact endq rfl (.inr ⟨fun hc => by rw [he] at hc; exact lt_irr hc, rfl⟩)
/-- a call that ends with a grown slice of a new block -/
theorem callqu {dr : Bool} {C : Ctx} {c k d : Nat} {σ : List StB} {g : FuncId} {K : PV → List StB → Nat → Prop} {ps : List PV} {Q : TypeId → Nat → Nat → List PV → Prop} (hc : cloAs ps = true) (h : Cfu C g ps d Q) (hk : k + d ≤ c) (hK : ∀ ty n e cs, Q ty n e cs → K (.ownu σ.length n e) (σ ++ [.live ty cs]) (k + d)) : ArgK dr C c k σ g ps K := ⟨.inl (frzAsK_clo hc ⟨⟨d, hk, .inr (.inr ⟨Q, h, hK⟩)⟩⟩)⟩
theorem ones_pn {xs : List Int} : pones (xs.map pn) = true := by
  induction xs with
  | nil => rfl
  | cons x xs ih =>
    show ((pn x).one && pones (xs.map pn)) = true
    rw [ih]; rfl
theorem copyInts_cu (hS : OldO S) {xs : List Int} (hne : xs ≠ []) (hl : xs.length ≤ 100000) : Cfu (ctx.plus S) 103 [pIs xs] 2 fun ty n e cs => ty = 3 ∧ n = xs.length ∧ e = 1 ∧ cs = xs.map pn := by
  have hpos := List.length_pos_iff.2 hne
  refine cu_of (hS 103 (by decide)) fn103 ?_
  refine ⟨by omega, part0 ⟨_, rfl, ?_⟩⟩
  refine ⟨⟨by rw [List.length_map]; show xs.length = xs.length * 1; omega, ⟨by omega, ones_pn⟩, by omega, fun h => absurd h (by omega), fun h => ⟨by omega, 3, [], _, rfl, by simp, rfl, ?_⟩⟩⟩
  exact ⟨⟨_, _, _, _, _, rfl, push_get, rfl, by omega, rfl, rfl⟩⟩
end Go.PI
/- THE LABEL of the reference. -/
open Go.Proofs
namespace Go.PI
open IM
set_option maxRecDepth 10000
set_option maxHeartbeats 4000000
variable (S : FuncId → Option (List AV → Heap → Option (AV × Heap)))
theorem appU {C : Ctx} {c k : Nat} {σ : List StB} {e t tx : TypeId} {rest : List TypeId} {j n : Nat} {ys : List Int} {cs : List PV} {K : PV → List StB → Nat → Prop} {ti xi ei : TI} (hj : σ[j]? = some (.live e cs)) (hn : cs.length = n) (ht : C.ty t = some ti) (htd : ti.desc = .slice e) (htx : C.ty tx = some xi) (he : C.ty e = some ei) (hd : decide (srcOk xi.desc = true ∧ ei.bytes ≤ 2 ^ 10) = true) (hs : ei.size = 1)
    (hl : n ≤ 1000000) (hy : ys.length ≤ 1000000) (hk : k < c) (hK : K (.ownu σ.length (n + ys.length) 1) (σ.set j .dead ++ [.live e (cs ++ ys.map pn)]) (k + 1)) : AppK C c k σ (t :: tx :: rest) (.ownu j n 1) (pIs ys) K := by
  refine ⟨?_⟩
  obtain ⟨desc, sz, by', z⟩ := ti
  simp only at htd
  subst htd
  unfold pappK pIs
  simp only [ht, htx, he, hd]
  refine ⟨by rw [hs, List.length_map]; omega, ⟨by omega, ones_pn⟩, ⟨by omega, hs.symm, hk⟩, cs, _, hj, by rw [hs]; omega, rfl, ?_⟩
  rw [hs, List.take_of_length_le (by omega)]
  exact hK
theorem fz_grown {i n : Nat} {σ : List StB} {xs : List Int} {cs : List PV} {ty : TypeId} (h : contOf σ i = some (ty, cs)) (hc : cs = xs.map pn) (hl : xs.length = n) : Fz (.ownu i n 1) σ (pIs xs) (σ.set i (.frz ty cs)) := by
  subst hl
  subst hc
  exact fun K hK => ⟨ty, _, _, h, ⟨by simp, fun _ => rfl⟩, by rw [List.take_of_length_le (by simp)], hK⟩
theorem nebq {n m : Nat} (h : Nat.beq n m = false) : n ≠ m := fun e => by subst e; simp at h
theorem fn76 : ctx.fn 76 = some c76 := by kernel_rfl
theorem before_ct (hS : OldO S) {R U R' U' : List Int} (hne : R ≠ []) (h1 : R.length = R'.length) (h2 : U.length = U'.length) (hl : R.length ≤ 1000) (hl2 : U.length ≤ 1000) :
    Ct (ctx.plus S) 76 [pO R U, pO R' U'] 10 fun w => (Lt (R ++ U) (R' ++ U') ∧ w = .bool true) ∨ (¬ Lt (R ++ U) (R' ++ U') ∧ w = .bool false) := by
  have hne' : R' ≠ [] := fun e => by rw [e] at h1; exact hne (List.length_eq_zero_iff.1 h1)
  refine ctO_of ⟨fun _ => false, fun _ => false, true⟩ (hS 76 (by decide)) fn76 ?_
  refine ⟨by omega, by omega, ?_⟩
  refine ⟨by kernel_rfl, ?_⟩
  refine ⟨_, rfl, rfl, ?_⟩
  refine callqu rfl (copyInts_cu S hS hne (by omega)) (by omega) ?_
  rintro ty n e cs ⟨rfl, rfl, rfl, rfl⟩
  refine ⟨_, rfl, rfl, ?_⟩
  refine ⟨⟨nebq (by kernel_rfl), nebq (by kernel_rfl), nebq (by kernel_rfl), nebq (by kernel_rfl), trivial⟩, ?_⟩
  refine appU (e := 3) rfl (by rw [List.length_map]) rfl rfl rfl rfl (by kernel_rfl) rfl (by omega) (by omega) (by omega) ?_
  refine ⟨_, rfl, rfl, ?_⟩
  refine callqu rfl (copyInts_cu S hS hne' (by omega)) (by omega) ?_
  rintro ty n e cs ⟨rfl, rfl, rfl, rfl⟩
  refine ⟨_, rfl, rfl, ?_⟩
  refine ⟨⟨nebq (by kernel_rfl), nebq (by kernel_rfl), nebq (by kernel_rfl), nebq (by kernel_rfl), trivial⟩, ?_⟩
  refine appU (e := 3) rfl (by rw [List.length_map]) rfl rfl rfl rfl (by kernel_rfl) rfl (by omega) (by omega) (by omega) ?_
  refine cal2 (fz_grown (xs := R ++ U) rfl (by rw [List.map_append]) (by rw [List.length_append])) (fz_grown (xs := R' ++ U') rfl (by rw [List.map_append]) (by rw [List.length_append])) (rless_ct S hS (by simp; omega) (by simp; omega)) (by omega) ?_
  rintro _ (⟨h, rfl⟩ | ⟨h, rfl⟩)
  · exact endq rfl (.inl ⟨h, rfl⟩)
  · exact endq rfl (.inr ⟨h, rfl⟩)
end Go.PI
