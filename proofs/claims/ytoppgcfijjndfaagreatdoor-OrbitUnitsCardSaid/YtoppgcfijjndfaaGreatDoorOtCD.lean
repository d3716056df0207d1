/- Own work of the verifier: OrZ OrAa OrAb OrAc OrRl. -/
import Derived.Test.YtoppgcfijjndfaaGreatDoorOtCC
import Derived.Test.YtoppgcfijjndfaaGreatDoorOtBE
set_option linter.all false
set_option exponentiation.threshold 3000
set_option linter.deprecated false
/- RENUMBERED squares; which of two comes first: of the reference. -/
open Go.Proofs
namespace Go.PI
open IM
set_option maxRecDepth 10000
set_option maxHeartbeats 4000000
variable (S : FuncId → Option (List AV → Heap → Option (AV × Heap)))
def Oren : Opn := ⟨fun t => Nat.beq t 45, fun t => Nat.beq t 45 || Nat.beq t 43, true⟩
theorem fn146 : ctx.fn 146 = some c146 := by kernel_rfl
def RnT (n : Nat) (e' f : Nat → Nat) (i : Nat) (ys : List Int) : Prop := ys.length = n ∧ ∀ j : Nat, j < i → ys[e' j]? = some (e' (f j) : Int)
theorem rnT_next {n : Nat} {e e' f : Nat → Nat} {i : Nat} {ys : List Int} (h : IsP n e e') (hi : i < n) (hy : RnT n e' f i ys) : RnT n e' f (i + 1) (ys.set (e' i) (e' (f i) : Int)) := by
  have hl := h.glt i hi
  refine ⟨by rw [List.length_set]; exact hy.1, fun j hj => ?_⟩
  by_cases hji : j = i
  · subst hji
    rw [List.getElem?_set_self (by have := hy.1; omega)]
  · rw [List.getElem?_set_ne (fun e2 => hji (h.inv.inj (by omega) (by omega) e2.symm))]
    exact hy.2 j (by omega)
theorem rnT_done {n : Nat} {e e' f : Nat → Nat} {ys : List Int} (h : IsP n e e') (hy : RnT n e' f n ys) : ys = PL n (rn e e' f) := by
  refine PL_ext hy.1 fun k hk => ?_
  have := hy.2 (e k) (h.lt k hk)
  rw [h.gf k hk] at this
  exact this
theorem renumber_ct (hS : OldO S) {r u : List Int} {n : Nat} {f f' g g' e e' : Nat → Nat} (ho : IsO r u n f f' g g') (he : IsP n e e') :
    Ct (ctx.plus S) 146 [pO r u, pIs (PL n e')] 200 fun w => w = pO (PL n (rn e e' f)) (PL n (rn e e' g)) := by
  have hn := ho.le
  have hrl := ho.l1.1
  have hul := ho.l1.2
  subst hrl
  have hel : (PL r.length e').length = r.length := PL_len
  have gr : ∀ i, i < r.length → r[i]? = some (f i : Int) := fun i hi => by
    have := ho.hr
    rw [show r[i]? = (PL r.length f)[i]? from congrArg (fun l : List Int => l[i]?) this, PL_get hi]
  have gu : ∀ i, i < r.length → u[i]? = some (g i : Int) := fun i hi => by rw [ho.hu, PL_get hi]
  have ge : ∀ i, i < r.length → (PL r.length e')[i]? = some (e' i : Int) := fun i hi => PL_get hi
  refine ctO_of Oren (hS 146 (by decide)) fn146 ?_
  refine ⟨by omega, ?_⟩
  refine ⟨by omega, ?_⟩
  refine ⟨by kernel_rfl, ?_⟩
  refine ⟨_, load_liv rfl rfl rfl, rfl, ?_⟩
  refine callq rfl (size_ct S hS (r := r) (u := u)) (by omega) ?_
  rintro _ rfl
  refine ⟨by omega, ⟨by omega, by omega, by omega⟩, _, int_zero, ?_⟩
  refine ⟨_, load_liv rfl rfl rfl, rfl, ?_⟩
  refine callq rfl (size_ct S hS (r := r) (u := u)) (by omega) ?_
  rintro _ rfl
  refine ⟨by omega, ⟨by omega, by omega, by omega⟩, _, int_zero, ?_⟩
  refine ⟨_, rfl, ?_⟩
  refine ⟨by omega, ?_⟩
  refine ⟨_, _, rfl, ⟨rfl, by decide, rfl⟩, _, rfl, _, rfl, ?_⟩
  refine ⟨fun q st => ∃ (i b : Nat) (ys zs : List Int) (T : List PV), st = ⟨T, [.liv 45 [pIs r, pIs u], .liv 45 [.nils, .nils], .live 3 (ys.map pn), .live 3 (zs.map pn), .liv 45 [.own 2 0 r.length r.length 1, .own 3 0 r.length r.length 1]], b⟩ ∧ Gt T 51 [(1, pIs (PL r.length e')), (2, .optr 0 0), (4, .optr 1 0), (5, .optr 4 0), (6, pn i)] ∧ q = r.length - i ∧ i ≤ r.length ∧ b ≤ 10 + i ∧ Hid (RnT r.length e' f i ys ∧ RnT r.length e' g i zs), ⟨_, ci ⟨0, _, _, _, _, rfl, ⟨rfl, rfl, rfl, rfl, rfl, rfl, trivial⟩, rfl, Nat.zero_le _, by omega, ⟨⟨by simp, fun j hj => by omega⟩, ⟨by simp, fun j hj => by omega⟩⟩⟩⟩, ?_⟩
  rintro _ st ⟨i, b, ys, zs, T, rfl, hT, rfl, hi, hb, hh⟩
  obtain ⟨J, rfl⟩ := gt_open hT
  clear hT
  obtain ⟨⟨y1, y2⟩, ⟨z1, z2⟩⟩ := hh.h
  refine ⟨_, load_liv rfl rfl rfl, ?_⟩
  refine callq rfl (size_ct S hS (r := r) (u := u)) (by omega) ?_
  rintro _ rfl
  refine ⟨fun hlt => ?_, fun hge => ?_⟩
  · have hin : i < r.length := by omega
    have c1 := ho.pr.lt i hin
    have c2 := ho.pu.lt i hin
    have c3 := he.glt i hin
    refine ⟨by kernel_rfl, ?_⟩
    refine ⟨_, load_liv rfl rfl rfl, rfl, ?_⟩
    refine ⟨⟨⟨by omega, by omega⟩, len_map_le (by omega)⟩, ?_⟩
    refine ⟨_, ld (at_map (ge i hin)) (by show _ * 1 = i; omega), rfl, ?_⟩
    refine ⟨_, load_liv rfl rfl rfl, rfl, ?_⟩
    refine ⟨⟨⟨by omega, by omega⟩, len_map_le (by omega)⟩, ?_⟩
    refine ⟨_, ld (at_map (gr i hin)) (by show _ * 1 = i; omega), rfl, ?_⟩
    refine ⟨⟨⟨by omega, by omega⟩, len_map_le (by omega)⟩, ?_⟩
    refine ⟨_, ld (at_map (ge (f i) c1)) (by show _ * 1 = f i; omega), rfl, ?_⟩
    refine ⟨⟨by omega, by omega⟩, ?_⟩
    refine ⟨_, _, rfl, ⟨rfl, by rw [List.length_map]; show 0 + e' i * 1 + 1 ≤ _; omega, rfl⟩, _, int_put (j := e' i) (by show 0 + e' i * 1 = e' i; omega) (by omega), _, rfl, ?_⟩
    refine ⟨by kernel_rfl, ?_⟩
    refine ⟨_, load_liv rfl rfl rfl, rfl, ?_⟩
    refine ⟨⟨⟨by omega, by omega⟩, len_map_le (by omega)⟩, ?_⟩
    refine ⟨_, ld (at_map (ge i hin)) (by show _ * 1 = i; omega), rfl, ?_⟩
    refine ⟨_, load_liv rfl rfl rfl, rfl, ?_⟩
    refine ⟨⟨⟨by omega, by omega⟩, len_map_le (by omega)⟩, ?_⟩
    refine ⟨_, ld (at_map (gu i hin)) (by show _ * 1 = i; omega), rfl, ?_⟩
    refine ⟨⟨⟨by omega, by omega⟩, len_map_le (by omega)⟩, ?_⟩
    refine ⟨_, ld (at_map (ge (g i) c2)) (by show _ * 1 = g i; omega), rfl, ?_⟩
    refine ⟨⟨by omega, by omega⟩, ?_⟩
    refine ⟨_, _, rfl, ⟨rfl, by rw [List.length_map]; show 0 + e' i * 1 + 1 ≤ _; omega, rfl⟩, _, int_put (j := e' i) (by show 0 + e' i * 1 = e' i; omega) (by omega), _, rfl, ?_⟩
    refine ⟨⟨by omega, by omega⟩, ?_⟩
    exact ⟨_, by omega, ci ⟨i + 1, _, _, _, _, rfl, ⟨rfl, rfl, rfl, rfl, rfl, rfl, trivial⟩, rfl, by omega, by omega, ⟨rnT_next he hin hh.h.1, rnT_next he hin hh.h.2⟩⟩⟩
  · have hin : i = r.length := by omega
    rw [hin] at hh
    have ey := rnT_done he hh.h.1
    have ez := rnT_done he hh.h.2
    refine ⟨_, load_liv rfl rfl rfl, ?_⟩
    refine ⟨_, _, rfl, ⟨rfl, by decide, rfl⟩, _, rfl, _, rfl, ?_⟩
    refine ⟨_, load_liv rfl rfl rfl, ?_⟩
    have h1 := fz_ints (i := 2) (n := r.length) (σ := [.liv 45 [pIs r, pIs u], .liv 45 [.own 2 0 r.length r.length 1, .own 3 0 r.length r.length 1], .live 3 (ys.map pn), .live 3 (zs.map pn), .liv 45 [.own 2 0 r.length r.length 1, .own 3 0 r.length r.length 1]]) (xs := ys) rfl y1
    have h2 := fz_ints (i := 3) (n := r.length) (σ := [.liv 45 [pIs r, pIs u], .liv 45 [.own 2 0 r.length r.length 1, .own 3 0 r.length r.length 1], .frz 3 (ys.map pn), .live 3 (zs.map pn), .liv 45 [.own 2 0 r.length r.length 1, .own 3 0 r.length r.length 1]]) (xs := zs) rfl z1
    have h3 : Fz (.agg [.own 2 0 r.length r.length 1, .own 3 0 r.length r.length 1]) _ (.agg [pIs ys, pIs zs]) _ := fun K hK => h1 _ (h2 _ hK)
    exact endf h3 (by rw [ey, ez]; rfl)
theorem fn134z : ctx.fn 134 = some c134 := by kernel_rfl
end Go.PI
/- WHICH OF TWO LISTS comes first. -/
open Go.Proofs
namespace Go.PI
open IM
set_option maxRecDepth 10000
set_option maxHeartbeats 4000000
variable (S : FuncId → Option (List AV → Heap → Option (AV × Heap)))
theorem fn154 : ctx.fn 154 = some c154 := by kernel_rfl
theorem rless_ct (hS : OldO S) {xs ys : List Int} (hl : xs.length = ys.length) (hx : xs.length ≤ 1000000) : Ct (ctx.plus S) 154 [pIs xs, pIs ys] 0 fun w => (Lt xs ys ∧ w = .bool true) ∨ (¬ Lt xs ys ∧ w = .bool false) := by
  refine ct_of (hS 154 (by decide)) fn154 ?_
  refine ⟨fun m s => ∃ (i : Nat) (T : List PV), s = ⟨T, [], 0⟩ ∧ Gt T 30 [(0, pIs xs), (1, pIs ys), (5, pn i)] ∧ m = xs.length - i ∧ i ≤ xs.length ∧ Hid (Eqs xs ys i), ⟨_, ci ⟨0, _, rfl, ⟨rfl, rfl, rfl, rfl, trivial⟩, rfl, Nat.zero_le _, ⟨rfl⟩⟩⟩, ?_⟩
  rintro _ s ⟨i, T, rfl, hT, rfl, hi, hn⟩
  obtain ⟨J, rfl⟩ := gt_open hT
  clear hT
  refine ⟨fun hlt => ?_, fun hge => ?_⟩
  · obtain ⟨a, ha⟩ := xs_get (xs := xs) (i := i) (by omega)
    obtain ⟨b, hb⟩ := xs_get (xs := ys) (i := i) (by omega)
    refine ⟨by kernel_rfl, ?_⟩
    refine ⟨⟨⟨by omega, by omega⟩, len_map_le (by omega)⟩, ?_⟩
    refine ⟨_, ld (at_map ha) (by show _ * 1 = i; omega), rfl, ?_⟩
    refine ⟨⟨⟨by omega, by omega⟩, len_map_le (by omega)⟩, ?_⟩
    refine ⟨_, ld (at_map hb) (by show _ * 1 = i; omega), rfl, ?_⟩
    refine ⟨fun hne => ?_, fun heq => ?_⟩
    · have hiff := lt_at hn.h ha hb (by omega)
      refine ⟨by kernel_rfl, ?_⟩
      refine ⟨⟨⟨by omega, by omega⟩, len_map_le (by omega)⟩, ?_⟩
      refine ⟨_, ld (at_map ha) (by show _ * 1 = i; omega), rfl, ?_⟩
      refine ⟨⟨⟨by omega, by omega⟩, len_map_le (by omega)⟩, ?_⟩
      refine ⟨_, ld (at_map hb) (by show _ * 1 = i; omega), rfl, ?_⟩
      refine ⟨fun h => ?_, fun h => ?_⟩
      · exact endq rfl (.inl ⟨hiff.2 (by omega), rfl⟩)
      · exact endq rfl (.inr ⟨fun hc => by have := hiff.1 hc; omega, rfl⟩)
    · refine ⟨⟨by omega, by omega⟩, ?_⟩
      exact ⟨_, by omega, ci ⟨i + 1, _, rfl, ⟨rfl, rfl, rfl, rfl, trivial⟩, rfl, by omega, ⟨eqs_next hn.h ha hb (by omega)⟩⟩⟩
  · have he : xs = ys := by
      have := hn.h; unfold Eqs at this
      rwa [List.take_of_length_le (by omega), List.take_of_length_le (by omega)] at this
    exact endq rfl (.inr ⟨fun hc => by rw [he] at hc; exact lt_irr hc, rfl⟩)
/-- a call that ends with a grown slice of a new block -/
theorem callqu {dr : Bool} {C : Ctx} {c k d : Nat} {σ : List StB} {g : FuncId} {K : PV → List StB → Nat → Prop} {ps : List PV} {Q : TypeId → Nat → Nat → List PV → Prop} (hc : cloAs ps = true) (h : Cfu C g ps d Q) (hk : k + d ≤ c) (hK : ∀ ty n e cs, Q ty n e cs → K (.ownu σ.length n e) (σ ++ [.live ty cs]) (k + d)) : ArgK dr C c k σ g ps K := ⟨.inl (frzAsK_clo hc ⟨⟨d, hk, .inr (.inr ⟨Q, h, hK⟩)⟩⟩)⟩
theorem ones_pn {xs : List Int} : pones (xs.map pn) = true := by
  induction xs with
  | nil => rfl
  | cons x xs ih =>
    show ((pn x).one && pones (xs.map pn)) = true
    rw [ih]; rfl
theorem copyInts_cu (hS : OldO S) {xs : List Int} (hne : xs ≠ []) (hl : xs.length ≤ 100000) : Cfu (ctx.plus S) 134 [pIs xs] 2 fun ty n e cs => ty = 3 ∧ n = xs.length ∧ e = 1 ∧ cs = xs.map pn := by
  have hpos := List.length_pos_iff.2 hne
  refine cu_of (hS 134 (by decide)) fn134z ?_
  refine ⟨by omega, part0 ⟨_, rfl, ?_⟩⟩
  refine ⟨⟨by rw [List.length_map]; show xs.length = xs.length * 1; omega, ⟨by omega, ones_pn⟩, by omega, fun h => absurd h (by omega), fun h => ⟨by omega, 3, [], _, rfl, by simp, rfl, ?_⟩⟩⟩
  exact ⟨⟨_, _, _, _, _, rfl, push_get, rfl, by omega, rfl, rfl⟩⟩
end Go.PI
/- THE LABEL of the reference. -/
open Go.Proofs
namespace Go.PI
open IM
set_option maxRecDepth 10000
set_option maxHeartbeats 4000000
variable (S : FuncId → Option (List AV → Heap → Option (AV × Heap)))
theorem appU {C : Ctx} {c k : Nat} {σ : List StB} {e t tx : TypeId} {rest : List TypeId} {j n : Nat} {ys : List Int} {cs : List PV} {K : PV → List StB → Nat → Prop} {ti xi ei : TI} (hj : σ[j]? = some (.live e cs)) (hn : cs.length = n) (ht : C.ty t = some ti) (htd : ti.desc = .slice e) (htx : C.ty tx = some xi) (he : C.ty e = some ei) (hd : decide (srcOk xi.desc = true ∧ ei.bytes ≤ 2 ^ 10) = true) (hs : ei.size = 1)
    (hl : n ≤ 1000000) (hy : ys.length ≤ 1000000) (hk : k < c) (hK : K (.ownu σ.length (n + ys.length) 1) (σ.set j .dead ++ [.live e (cs ++ ys.map pn)]) (k + 1)) : AppK C c k σ (t :: tx :: rest) (.ownu j n 1) (pIs ys) K := by
  refine ⟨?_⟩
  obtain ⟨desc, sz, by', z⟩ := ti
  simp only at htd
  subst htd
  unfold pappK pIs
  simp only [ht, htx, he, hd]
  refine ⟨by rw [hs, List.length_map]; omega, ⟨by omega, ones_pn⟩, ⟨by omega, hs.symm, hk⟩, cs, _, hj, by rw [hs]; omega, rfl, ?_⟩
  rw [hs, List.take_of_length_le (by omega)]
  exact hK
theorem fz_grown {i n : Nat} {σ : List StB} {xs : List Int} {cs : List PV} {ty : TypeId} (h : contOf σ i = some (ty, cs)) (hc : cs = xs.map pn) (hl : xs.length = n) : Fz (.ownu i n 1) σ (pIs xs) (σ.set i (.frz ty cs)) := by
  subst hl
  subst hc
  exact fun K hK => ⟨ty, _, _, h, ⟨by simp, fun _ => rfl⟩, by rw [List.take_of_length_le (by simp)], hK⟩
theorem nebq {n m : Nat} (h : Nat.beq n m = false) : n ≠ m := fun e => by subst e; simp at h
theorem fn96 : ctx.fn 96 = some c96 := by kernel_rfl
theorem before_ct (hS : OldO S) {R U R' U' : List Int} (hne : R ≠ []) (h1 : R.length = R'.length) (h2 : U.length = U'.length) (hl : R.length ≤ 1000) (hl2 : U.length ≤ 1000) :
    Ct (ctx.plus S) 96 [pO R U, pO R' U'] 10 fun w => (Lt (R ++ U) (R' ++ U') ∧ w = .bool true) ∨ (¬ Lt (R ++ U) (R' ++ U') ∧ w = .bool false) := by
  have hne' : R' ≠ [] := fun e => by rw [e] at h1; exact hne (List.length_eq_zero_iff.1 h1)
  refine ctO_of ⟨fun _ => false, fun _ => false, true⟩ (hS 96 (by decide)) fn96 ?_
  refine ⟨by omega, by omega, ?_⟩
  refine ⟨by kernel_rfl, ?_⟩
  refine ⟨_, rfl, rfl, ?_⟩
  refine callqu rfl (copyInts_cu S hS hne (by omega)) (by omega) ?_
  rintro ty n e cs ⟨rfl, rfl, rfl, rfl⟩
  refine ⟨_, rfl, rfl, ?_⟩
  refine ⟨⟨nebq (by kernel_rfl), nebq (by kernel_rfl), nebq (by kernel_rfl), nebq (by kernel_rfl), trivial⟩, ?_⟩
  refine appU (e := 3) rfl (by rw [List.length_map]) rfl rfl rfl rfl (by kernel_rfl) rfl (by omega) (by omega) (by omega) ?_
  refine ⟨_, rfl, rfl, ?_⟩
  refine callqu rfl (copyInts_cu S hS hne' (by omega)) (by omega) ?_
  rintro ty n e cs ⟨rfl, rfl, rfl, rfl⟩
  refine ⟨_, rfl, rfl, ?_⟩
  refine ⟨⟨nebq (by kernel_rfl), nebq (by kernel_rfl), nebq (by kernel_rfl), nebq (by kernel_rfl), trivial⟩, ?_⟩
  refine appU (e := 3) rfl (by rw [List.length_map]) rfl rfl rfl rfl (by kernel_rfl) rfl (by omega) (by omega) (by omega) ?_
  refine cal2 (fz_grown (xs := R ++ U) rfl (by rw [List.map_append]) (by rw [List.length_append])) (fz_grown (xs := R' ++ U') rfl (by rw [List.map_append]) (by rw [List.length_append])) (rless_ct S hS (by simp; omega) (by simp; omega)) (by omega) ?_
  rintro _ (⟨h, rfl⟩ | ⟨h, rfl⟩)
  · exact endq rfl (.inl ⟨h, rfl⟩)
  · exact endq rfl (.inr ⟨h, rfl⟩)
end Go.PI
/- THE LABEL of the reference: the best of all numberings. -/
open Go.Proofs
namespace Go.PI
open IM
set_option maxRecDepth 10000
set_option maxHeartbeats 4000000
variable (S : FuncId → Option (List AV → Heap → Option (AV × Heap)))
theorem fn91 : ctx.fn 91 = some c91 := by kernel_rfl
theorem rlabel_ct (hS : OldO S) {r u : List Int} {n : Nat} {f f' g g' : Nat → Nat} (ho : IsO r u n f f' g g') (hc : Conn n f g) :
    Ct (ctx.plus S) 91 [pO r u] 100000 fun w => w = .tup [pO (Rs f g n (bst f g n n)) (Us f g n (bst f g n n)), pIs (PL n (ei f g n (bst f g n n)))] := by
  have hn := ho.le
  have h0 := ho.pos
  have hrl := ho.l1.1
  have hp := fun s hs => es_perm (s := s) ho.pr ho.pu h0 hs hc
  refine ct_of (hS 91 (by decide)) fn91 ?_
  refine ⟨by omega, by omega, ?_⟩
  refine ⟨_, rfl, ?_⟩
  refine callq rfl (from_ct S hS ho h0 hc) (by omega) ?_
  rintro _ rfl
  refine ⟨fun m st => ∃ (i b : Nat) (T : List PV), st = ⟨T, [.live 45 [pIs r, pIs u], .live 45 [.lst 0 [], .lst 0 []]], b⟩ ∧ Gt T 30 [(1, .optr 0 0), (2, .optr 1 0), (4, pIs (PL n (ei f g n (bst f g n i)))), (5, pn i)] ∧ m = n - i ∧ 1 ≤ i ∧ i ≤ n ∧ b ≤ 1010 + 1500 * i, ⟨_, ci ⟨1, _, _, rfl, ⟨rfl, rfl, rfl, by rw [bst_one]; rfl, rfl, trivial⟩, rfl, Nat.le_refl _, by omega, by omega⟩⟩, ?_⟩
  rintro _ st ⟨i, b, T, rfl, hT, rfl, hi1, hi, hb⟩
  obtain ⟨J, rfl⟩ := gt_open hT
  clear hT
  refine ⟨_, rfl, ?_⟩
  refine callq rfl (size_ct S hS (r := r) (u := u)) (by omega) ?_
  rintro _ rfl
  refine ⟨fun hlt => ?_, fun hge => ?_⟩
  · have hin : i < n := by omega
    have hbl := bst_lt (f := f) (g := g) h0 i (by omega)
    refine ⟨_, rfl, ?_⟩
    refine callq rfl (from_ct S hS ho hin hc) (by omega) ?_
    rintro _ rfl
    refine ⟨by kernel_rfl, ?_⟩
    refine ⟨_, rfl, rfl, ?_⟩
    refine callq rfl (renumber_ct S hS ho (hp i hin)) (by omega) ?_
    rintro _ rfl
    refine ⟨_, rfl, rfl, ?_⟩
    refine callq rfl (renumber_ct S hS ho (hp _ hbl)) (by omega) ?_
    rintro _ rfl
    refine callq rfl (before_ct S hS (R := Rs f g n i) (U := Us f g n i) (R' := Rs f g n (bst f g n i)) (U' := Us f g n (bst f g n i)) (Rs_ne h0) (by rw [Rs_len, Rs_len]) (by rw [Us_len, Us_len]) (by rw [Rs_len]; omega) (by rw [Us_len]; omega)) (by omega) ?_
    rintro _ (⟨hB, rfl⟩ | ⟨hB, rfl⟩)
    · refine ⟨⟨by omega, by omega⟩, ?_⟩
      exact ⟨_, by omega, ci ⟨i + 1, _, _, rfl, ⟨rfl, rfl, rfl, by rw [bst_yes hB]; rfl, rfl, trivial⟩, rfl, by omega, by omega, by omega⟩⟩
    · refine ⟨⟨by omega, by omega⟩, ?_⟩
      exact ⟨_, by omega, ci ⟨i + 1, _, _, rfl, ⟨rfl, rfl, rfl, by rw [bst_no hB]; rfl, rfl, trivial⟩, rfl, by omega, by omega, by omega⟩⟩
  · have hin : i = n := by omega
    subst hin
    have hbl := bst_lt (f := f) (g := g) h0 i (by omega)
    refine ⟨_, rfl, ?_⟩
    refine callq rfl (renumber_ct S hS ho (hp _ hbl)) (by omega) ?_
    rintro _ rfl
    refine ⟨_, _, rfl, ⟨rfl, by decide, rfl⟩, _, rfl, _, rfl, ?_⟩
    refine ⟨_, rfl, ?_⟩
    exact endsq rfl rfl
end Go.PI
/- WORDS WITH THE SAME MATRIX ACT ALIKE: what the law needs. -/
open Go.Proofs
namespace Go.PI
open IM
set_option maxRecDepth 10000
set_option maxHeartbeats 4000000
variable (S : FuncId → Option (List AV → Heap → Option (AV × Heap)))
/-! ### Texts -/
theorem wl_app {s t : ByteArray} : wl (s ++ t) = wl s ++ wl t := by
  unfold wl
  rw [ByteArray.toList_data_append]
  simp
theorem wl_sub {s : ByteArray} {i j : Nat} : wl (s.extract i j) = ((wl s).take j).drop i := by
  unfold wl
  simp [List.extract_eq_take_drop, List.drop_take]
theorem size_wl {s : ByteArray} {n : Nat} (h : (wl s).length = n) : s.size = n := by rw [← h, wl_len]
theorem backW_cons {x : Nat} {w : List Nat} : backW (x :: w) = backW w ++ [invB x] := by simp [backW]
theorem add_str {a b : ByteArray} (h : a.size + b.size < 1000000) : strBin .add a b = some (.str (a ++ b)) := by
  simp only [strBin, if_pos h]
theorem fn65 : ctx.fn 65 = some c65 := by kernel_rfl
theorem rback_ct (hS : OldO S) {s : ByteArray} (hs : s.size ≤ 1000) (hl : ∀ b ∈ wl s, IsLet b) : Ct (ctx.plus S) 65 [.str s] 0 fun r => ∃ t, r = .str t ∧ wl t = backW (wl s) := by
  refine ct_of (hS 65 (by decide)) fn65 ?_
  refine ⟨⟨by omega, by omega⟩, ?_⟩
  refine ⟨fun m st => ∃ (i : Nat) (t : ByteArray) (T : List PV), st = ⟨T, [], 0⟩ ∧ Gt T 32 [(0, .str s), (3, .str t), (4, pn ((i : Int) - 1))] ∧ m = i ∧ i ≤ s.size ∧ Hid (wl t = backW ((wl s).drop i)), ⟨_, ci ⟨s.size, _, _, rfl, ⟨rfl, rfl, rfl, rfl, trivial⟩, rfl, Nat.le_refl _, ⟨?_⟩⟩⟩, ?_⟩
  · rw [List.drop_eq_nil_of_le (by rw [wl_len]; omega)]
    rfl
  rintro m st ⟨i, t, T, rfl, hT, hm, hi, ⟨hp⟩⟩
  obtain ⟨J, rfl⟩ := gt_open hT
  clear hT
  have htl : t.size = s.size - i := by
    refine size_wl ?_
    rw [hp]
    unfold backW
    rw [List.length_reverse, List.length_map, List.length_drop, wl_len]
  refine ⟨fun hlt => ?_, fun hge => ?_⟩
  · obtain ⟨q, rfl⟩ : ∃ q, i = q + 1 := ⟨i - 1, by omega⟩
    obtain ⟨x, hx, hx2⟩ := wl_at (s := s) (i := q) (by omega)
    have hd : (wl s).drop q = x.toNat :: (wl s).drop (q + 1) := drop_at hx2
    have hlx := hl _ (List.mem_of_getElem? hx2)
    refine ⟨by omega, x, by rw [show (((q + 1 : Nat) : Int) - 1).toNat = q by omega]; exact hx, ?_⟩
    have fin : ∀ (b : ByteArray) (y : Nat), x.toNat = y → wl b = [invB y] → wl (t ++ b) = backW ((wl s).drop q) := fun b y h1 h2 => by
      rw [wl_app, hp, h2, hd, backW_cons, h1]
    by_cases h1 : x.toNat = 83
    · refine ⟨rfl, _, u8_eq_y h1, ?_⟩
      refine ⟨_, add_str (show _ + 1 < _ by omega), ?_⟩
      refine ⟨⟨by omega, by omega⟩, ?_⟩
      exact ⟨q, by omega, ci ⟨q, _, _, rfl, ⟨rfl, rfl, rfl, by show pn ((((q + 1 : Nat) : Int) - 1) - 1) = pn ((q : Int) - 1); congr 1; omega, trivial⟩, rfl, by omega, ⟨fin _ _ h1 rfl⟩⟩⟩
    refine ⟨rfl, _, u8_eq_n h1, ?_⟩
    by_cases h2 : x.toNat = 115
    · refine ⟨rfl, _, u8_eq_y h2, ?_⟩
      refine ⟨_, add_str (show _ + 1 < _ by omega), ?_⟩
      refine ⟨⟨by omega, by omega⟩, ?_⟩
      exact ⟨q, by omega, ci ⟨q, _, _, rfl, ⟨rfl, rfl, rfl, by show pn ((((q + 1 : Nat) : Int) - 1) - 1) = pn ((q : Int) - 1); congr 1; omega, trivial⟩, rfl, by omega, ⟨fin _ _ h2 rfl⟩⟩⟩
    refine ⟨rfl, _, u8_eq_n h2, ?_⟩
    by_cases h3 : x.toNat = 84
    · refine ⟨rfl, _, u8_eq_y h3, ?_⟩
      refine ⟨_, add_str (show _ + 1 < _ by omega), ?_⟩
      refine ⟨⟨by omega, by omega⟩, ?_⟩
      exact ⟨q, by omega, ci ⟨q, _, _, rfl, ⟨rfl, rfl, rfl, by show pn ((((q + 1 : Nat) : Int) - 1) - 1) = pn ((q : Int) - 1); congr 1; omega, trivial⟩, rfl, by omega, ⟨fin _ _ h3 rfl⟩⟩⟩
    refine ⟨rfl, _, u8_eq_n h3, ?_⟩
    have h4 : x.toNat = 116 := by rcases hlx with h | h | h | h <;> first | contradiction | exact h
    refine ⟨rfl, _, u8_eq_y h4, ?_⟩
    refine ⟨_, add_str (show _ + 1 < _ by omega), ?_⟩
    refine ⟨⟨by omega, by omega⟩, ?_⟩
    exact ⟨q, by omega, ci ⟨q, _, _, rfl, ⟨rfl, rfl, rfl, by show pn ((((q + 1 : Nat) : Int) - 1) - 1) = pn ((q : Int) - 1); congr 1; omega, trivial⟩, rfl, by omega, ⟨fin _ _ h4 rfl⟩⟩⟩
  · have hi0 : i = 0 := by omega
    subst hi0
    exact endq rfl ⟨t, rfl, hp⟩
theorem fn38 : ctx.fn 38 = some c38 := by kernel_rfl
/-- the label, as the reference makes it -/
noncomputable def lab (n : Nat) (o : O4) : PV := pO (Rs o.f o.g n (bst o.f o.g n n)) (Us o.f o.g n (bst o.f o.g n n))
theorem rlab_ct (hS : OldO S) {n : Nat} {o : O4} (h0 : 0 < n) (hn : n ≤ 60) (h : o.Ok n) (hc : Conn n o.f o.g) : Ct (ctx.plus S) 38 [p4 n o] 100010 fun w => w = lab n o := by
  have hO : IsO (PL n o.f) (PL n o.g) n o.f o.f' o.g o.g' := ⟨h0, hn, rfl, rfl, h.pr, h.pu⟩
  refine ct_of (hS 38 (by decide)) fn38 ?_
  refine ⟨by omega, by omega, ?_⟩
  refine ⟨_, rfl, ?_⟩
  refine callq rfl (rlabel_ct S hS hO hc) (by omega) ?_
  rintro _ rfl
  refine ⟨by omega, ?_⟩
  refine ⟨_, _, push_get, ⟨rfl, Nat.le_refl 2, rfl⟩, _, rfl, _, rfl, ?_⟩
  refine ⟨_, rfl, ?_⟩
  refine ⟨_, _, rfl, ⟨rfl, Nat.le_refl 2, rfl⟩, _, rfl, _, rfl, ?_⟩
  exact ⟨_, rfl, endq rfl rfl⟩
theorem one_ok (hS : OldO S) {n : Nat} {o : O4} (h0 : 0 < n) (hn : n ≤ 60) (h : o.Ok n) (hc : Conn n o.f o.g) : Ct (ctx.plus S) 36 [p4 n o] 310010 fun v => v = pn 0 := by
  have hO : IsO (PL n o.f) (PL n o.g) n o.f o.f' o.g o.g' := ⟨h0, hn, rfl, rfl, h.pr, h.pu⟩
  refine (checkOne_ok S hS hO).mono (Nat.le_refl _) fun v hv => ?_
  rw [hv]
  unfold cc
  rw [if_pos hc]
end Go.PI
