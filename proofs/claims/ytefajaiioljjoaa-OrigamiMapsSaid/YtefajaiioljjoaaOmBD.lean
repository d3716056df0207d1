/- Own work of the verifier: OzF OzG OgL OgM OgN OgO OgP OzH. -/
import Derived.Test.YtefajaiioljjoaaOmBC
import Derived.Test.YtefajaiioljjoaaOmAZ
import Derived.Test.YtefajaiioljjoaaOmAW
import Derived.Test.YtefajaiioljjoaaOmBA
set_option linter.all false
set_option exponentiation.threshold 3000
set_option linter.deprecated false
/- COVERINGS AND ISOMORPHISMS, of the program; two origamis that are connected. -/
open Go.Proofs
namespace Go.PI
open IM
set_option maxRecDepth 10000
set_option maxHeartbeats 4000000
variable (S : FuncId → Option (List AV → Heap → Option (AV × Heap)))
def Con2 (n m : Nat) (f g F G : Nat → Nat) : Prop := Conn n f g ∧ Conn m F G
section
variable {r u r2 u2 : List Int} {n m : Nat} {f f' g g' F F' G G' : Nat → Nat}
theorem isSplit2_ct (hS : OldO S) (ho : IsO r u n f f' g g') (ho2 : IsO r2 u2 m F F' G G') {i : Nat} (hi : i < 2) :
    ∃ q : List Int × List Int, [(r, u), (r2, u2)][i]? = some q ∧ Ct (ctx.plus S) 114 [pO q.1 q.2] 3100 fun w => ((i = 0 → Conn n f g) ∧ (i = 1 → Conn m F G) ∧ w = .bool false) ∨ (¬ Con2 n m f g F G ∧ w = .bool true) := by
  rcases (show i = 0 ∨ i = 1 by omega) with rfl | rfl
  · refine ⟨(r, u), rfl, (isSplit_ct S hS ho).mono (Nat.le_refl _) ?_⟩
    rintro w (⟨h, rfl⟩ | ⟨h, rfl⟩)
    · exact .inl ⟨fun _ => h, fun e => by omega, rfl⟩
    · exact .inr ⟨fun hc => h hc.1, rfl⟩
  · refine ⟨(r2, u2), rfl, (isSplit_ct S hS ho2).mono (Nat.le_refl _) ?_⟩
    rintro w (⟨h, rfl⟩ | ⟨h, rfl⟩)
    · exact .inl ⟨fun e => by omega, fun _ => h, rfl⟩
    · exact .inr ⟨fun hc => h hc.2, rfl⟩
theorem indexSplit2_ct (hS : OldO S) (ho : IsO r u n f f' g g') (ho2 : IsO r2 u2 m F F' G G') :
    Ct (ctx.plus S) 137 [pOs [(r, u), (r2, u2)], .fn 114] 6400 fun w => (Con2 n m f g F G ∧ w = pn (-1)) ∨ (¬ Con2 n m f g F G ∧ ∃ i : Nat, w = pn i) := by
  refine ct_of (hS 137 (by decide)) fn137 ?_
  refine ⟨fun q s => ∃ (i b : Nat) (T : List PV), s = ⟨T, [], b⟩ ∧ Gt T 19 [(0, pOs [(r, u), (r2, u2)]), (1, .fn 114), (7, pn 2), (8, pn i)] ∧ q = 2 - i ∧ i ≤ 2 ∧ b ≤ 3100 * i ∧ Hid ((0 < i → Conn n f g) ∧ (1 < i → Conn m F G)), ⟨_, ci ⟨0, 0, _, rfl, ⟨rfl, rfl, rfl, rfl, rfl, trivial⟩, rfl, Nat.zero_le _, Nat.le_refl _, ⟨fun h => by omega, fun h => by omega⟩⟩⟩, ?_⟩
  rintro _ s ⟨i, b, T, rfl, hT, rfl, hi, hb, hh⟩
  obtain ⟨J, rfl⟩ := gt_open hT
  clear hT
  refine ⟨fun hlt => ?_, fun hge => ?_⟩
  · obtain ⟨q, hq, hsp⟩ := isSplit2_ct S hS ho ho2 (i := i) (by omega)
    refine ⟨⟨⟨by omega, by omega⟩, by show i * 2 ≤ 4; omega⟩, ?_⟩
    refine ⟨pO q.1 q.2, ?_, ?_⟩
    · rcases (show i = 0 ∨ i = 1 by omega) with rfl | rfl
      · cases hq; rfl
      · cases hq; rfl
    refine callq rfl hsp (by omega) ?_
    rintro _ (⟨h1, h2, rfl⟩ | ⟨hc, rfl⟩)
    · refine ⟨⟨by omega, by omega⟩, ?_⟩
      exact ⟨_, by omega, ci ⟨i + 1, _, _, rfl, ⟨rfl, rfl, rfl, rfl, rfl, trivial⟩, rfl, by omega, by omega, ⟨fun _ => by
        by_cases e : i = 0
        · exact h1 e
        · exact hh.h.1 (by omega), fun h => h2 (by omega)⟩⟩⟩
    · exact endq rfl (.inr ⟨hc, i, rfl⟩)
  · exact endq rfl (.inl ⟨⟨hh.h.1 (by omega), hh.h.2 (by omega)⟩, rfl⟩)
theorem containsSplit2_ct (hS : OldO S) (ho : IsO r u n f f' g g') (ho2 : IsO r2 u2 m F F' G G') :
    Ct (ctx.plus S) 113 [pOs [(r, u), (r2, u2)], .fn 114] 6400 fun w => (Con2 n m f g F G ∧ w = .bool false) ∨ (¬ Con2 n m f g F G ∧ w = .bool true) := by
  refine ct_of (hS 113 (by decide)) fn113 ?_
  refine callq rfl (indexSplit2_ct S hS ho ho2) (by omega) ?_
  rintro _ (⟨hc, rfl⟩ | ⟨hc, i, rfl⟩)
  · exact ⟨fun h => by omega, fun _ => endq rfl (.inl ⟨hc, rfl⟩)⟩
  · exact ⟨fun _ => endq rfl (.inr ⟨hc, rfl⟩), fun h => by omega⟩
theorem checkConn2_bad (hS : OldO S) {r u r2 u2 : List Int} (l1 : r.length ≤ 1000000) (l2 : u.length ≤ 1000000) (l3 : r2.length ≤ 1000000) (l4 : u2.length ≤ 1000000) (h : chkA [(r, u), (r2, u2)] ≠ 0) : Ct (ctx.plus S) 72 [pOs [(r, u), (r2, u2)]] 6600 fun v => v = pn (chkA [(r, u), (r2, u2)]) := by
  refine ct_of (hS 72 (by decide)) fn72 ?_
  refine callq rfl (check2_ct S hS l1 l2 l3 l4) (by omega) ?_
  rintro _ rfl
  refine ⟨fun h0 => absurd h0 h, fun _ => ?_⟩
  exact endq rfl rfl
open Classical in
noncomputable def cc2 (n m : Nat) (f g F G : Nat → Nat) : Int := if Con2 n m f g F G then 0 else 16
theorem checkConn2_ok (hS : OldO S) (ho : IsO r u n f f' g g') (ho2 : IsO r2 u2 m F F' G G') : Ct (ctx.plus S) 72 [pOs [(r, u), (r2, u2)]] 6600 fun v => v = pn (cc2 n m f g F G) := by
  have hl := ho.l1
  have hl2 := ho2.l1
  have hn := ho.le
  have hm := ho2.le
  have h0 : chkA [(r, u), (r2, u2)] = 0 := chkA_two.2 ⟨ho.chk, ho2.chk⟩
  refine ct_of (hS 72 (by decide)) fn72 ?_
  refine callq rfl (check2_ct S hS (by omega) (by omega) (by omega) (by omega)) (by omega) ?_
  rintro _ rfl
  rw [h0]
  refine ⟨fun _ => ?_, fun h => absurd rfl h⟩
  refine callq rfl (containsSplit2_ct S hS ho ho2) (by omega) ?_
  rintro _ (⟨hc, rfl⟩ | ⟨hc, rfl⟩)
  · exact endq rfl (by unfold cc2; rw [if_pos hc])
  · exact endq rfl (by unfold cc2; rw [if_neg hc])
theorem fn33 : ctx.fn 33 = some c33 := by kernel_rfl
theorem checkTwo_bad (hS : OldO S) {r u r2 u2 : List Int} (l1 : r.length ≤ 1000000) (l2 : u.length ≤ 1000000) (l3 : r2.length ≤ 1000000) (l4 : u2.length ≤ 1000000) (h : chkA [(r, u), (r2, u2)] ≠ 0) : Ct (ctx.plus S) 33 [pO r u, pO r2 u2] 10 fun v => v = pn (chkA [(r, u), (r2, u2)]) := by
  refine ct_of (hS 33 (by decide)) fn33 ?_
  refine ⟨by omega, by omega, ?_⟩
  refine ⟨_, rfl, ?_⟩
  refine callq rfl (rcheck_ct S hS l1 l2) (by omega) ?_
  rintro _ rfl
  refine ⟨fun h1 => ?_, fun h1 => ?_⟩
  · exact endq rfl (by rw [chkA_fst h1])
  refine ⟨_, rfl, ?_⟩
  refine callq rfl (rcheck_ct S hS l3 l4) (by omega) ?_
  rintro _ rfl
  refine ⟨fun h2 => ?_, fun h2 => ?_⟩
  · exact endq rfl (by rw [chkA_snd h1])
  · exact absurd (chkA_two.2 ⟨h1, h2⟩) h
theorem checkTwo_ok (hS : OldO S) (ho : IsO r u n f f' g g') (ho2 : IsO r2 u2 m F F' G G') : Ct (ctx.plus S) 33 [pO r u, pO r2 u2] 700000 fun v => v = pn (cc2 n m f g F G) := by
  have hl := ho.l1
  have hl2 := ho2.l1
  have hn := ho.le
  have hm := ho2.le
  refine ct_of (hS 33 (by decide)) fn33 ?_
  refine ⟨by omega, by omega, ?_⟩
  refine ⟨_, rfl, ?_⟩
  refine callq rfl (rcheck_ct S hS (by omega) (by omega)) (by omega) ?_
  rintro _ rfl
  rw [ho.chk]
  refine ⟨fun h => absurd rfl h, fun _ => ?_⟩
  refine ⟨_, rfl, ?_⟩
  refine callq rfl (rcheck_ct S hS (by omega) (by omega)) (by omega) ?_
  rintro _ rfl
  rw [ho2.chk]
  refine ⟨fun h => absurd rfl h, fun _ => ?_⟩
  refine ⟨_, rfl, ?_⟩
  refine callq rfl (rconnected_ct S hS ho) (by omega) ?_
  rintro _ (⟨hc, rfl⟩ | ⟨hc, rfl⟩)
  · refine ⟨_, rfl, ?_⟩
    refine callq rfl (rconnected_ct S hS ho2) (by omega) ?_
    rintro _ (⟨hc2, rfl⟩ | ⟨hc2, rfl⟩)
    · exact endq rfl (by unfold cc2; rw [if_pos ⟨hc, hc2⟩])
    · exact endq rfl (by unfold cc2; rw [if_neg (fun h => hc2 h.2)])
  · exact endq rfl (by unfold cc2; rw [if_neg (fun h => hc h.1)])
end
end Go.PI
/- COVERINGS AND ISOMORPHISMS, of the program. -/
open Go.Proofs
namespace Go.PI
open IM
set_option maxRecDepth 10000
set_option maxHeartbeats 4000000
variable (S : FuncId → Option (List AV → Heap → Option (AV × Heap)))
theorem mps_pre {n m : Nat} {f g F G : Nat → Nat} : ∀ {s m' : Nat}, s ≤ m' → ∃ t, mps n m f g F G m' = mps n m f g F G s ++ t
  | s, 0, h => ⟨[], by rw [show s = 0 by omega]; rfl⟩
  | s, k + 1, h => by
    by_cases e : s = k + 1
    · subst e; exact ⟨[], by rw [List.append_nil]⟩
    · obtain ⟨t, ht⟩ := mps_pre (n := n) (m := m) (f := f) (g := g) (F := F) (G := G) (s := s) (m' := k) (by omega)
      exact ⟨t ++ mp1 n m f g F G k, by show mps n m f g F G k ++ mp1 n m f g F G k = _; rw [ht, List.append_assoc]⟩
theorem rng_maps (hS : OldO S) {r u r2 u2 : List Int} {n m d c k : Nat} {f f' g g' F F' G G' : Nat → Nat} (ho : IsO r u n f f' g g') (ho2 : IsO r2 u2 m F F' G G') (hcn : Conn n f g) (hn20 : n ≤ 20) {x : LpD} {σ : List StB} {K : Ex → List StB → Nat → Prop} (Inv : LpD → Nat → List StB → Prop) (Fin : List StB → Prop) (hk : k + 2 + 60 * (1000 + d) ≤ c)
    (hI0 : Inv x 0 (σ ++ [.lp x])) (hskip : ∀ (s : Nat) (σ : List StB), s < m → (∀ h, ¬ MapAt n m s f g F G h) → Inv x s σ → Inv x (s + 1) σ)
    (hy : ∀ (s : Nat) (h : Nat → Nat) (σ' : List StB), s < m → MapAt n m s f g F G h → Inv x s σ' → Cy (ctx.plus S) σ.length [pIs (PL n h)] σ' d fun b σ2 => (b = true ∧ Inv x (s + 1) σ2) ∨ (b = false ∧ Fin σ2))
    (hK : ∀ σ', Inv x m σ' ∨ Fin σ' → rngE σ' σ.length fun e => K e (σ'.set σ.length .dead) (k + 2 + 60 * (1000 + d))) : RngK none (ctx.plus S) c (.fnc 118 [.lptr [pIs r2, pIs u2], .lptr [pIs r, pIs u]]) x σ k K :=
  ⟨118, [.lptr [pIs r2, pIs u2], .lptr [pIs r, pIs u]], .inr rfl, rfl, [], show ∃ _ _, _ ∧ _ ∧ _ from ⟨60 * (1000 + d), _, hk, maps_cm S hS ho ho2 hcn hn20 (Inv x) Fin hy hskip hI0, fun r σ' h => hK σ' h.2⟩⟩
theorem fn32 : ctx.fn 32 = some c32 := by kernel_rfl
theorem covering_bad (hS : OldO S) {r u r2 u2 : List Int} (l1 : r.length ≤ 1000000) (l2 : u.length ≤ 1000000) (l3 : r2.length ≤ 1000000) (l4 : u2.length ≤ 1000000) {e : Int} (he : e ≠ 0) (hC : Ct (ctx.plus S) 72 [pOs [(r, u), (r2, u2)]] 6600 fun v => v = pn e) : Ct (ctx.plus S) 32 [pO r u, pO r2 u2] 80000 fun v => v = .tup [.lst 0 [], pn e] := by
  refine ct_of (hS 32 (by decide)) fn32 ?_
  refine ⟨by omega, by omega, by omega, by omega, ?_⟩
  refine ⟨_, rfl, ?_⟩
  refine ⟨_, rfl, ?_⟩
  refine ⟨by omega, partc rfl ⟨_, rfl, ?_⟩⟩
  refine cal1 (fz_own (ty := 24) rfl (Nat.le_refl 4) (Nat.le_refl _) rfl) hC (by omega) ?_
  rintro _ rfl
  refine ⟨fun _ => ?_, fun h0 => absurd h0 he⟩
  refine ⟨_, _, rfl, ⟨rfl, Nat.le_of_ble_eq_true rfl, rfl⟩, _, rfl, _, rfl, ?_⟩
  refine ⟨_, _, rfl, ⟨rfl, Nat.le_of_ble_eq_true rfl, rfl⟩, _, rfl, _, rfl, ?_⟩
  refine ⟨_, rfl, ?_⟩
  refine ⟨_, rfl, ?_⟩
  exact endsq rfl rfl
theorem covering_ok (hS : OldO S) {r u r2 u2 : List Int} {n m : Nat} {f f' g g' F F' G G' : Nat → Nat} (ho : IsO r u n f f' g g') (ho2 : IsO r2 u2 m F F' G G') (hcn : Con2 n m f g F G) (hn20 : n ≤ 20) :
    Ct (ctx.plus S) 32 [pO r u, pO r2 u2] 80000 fun v => (mps n m f g F G m = [] ∧ v = .tup [.lst 0 [], pn 11]) ∨ ∃ x t, mps n m f g F G m = x :: t ∧ v = .tup [pIs x, pn 0] := by
  have hl := ho.l1
  have hl2 := ho2.l1
  have hn := ho.le
  have hm := ho2.le
  have hcc : cc2 n m f g F G = 0 := by unfold cc2; rw [if_pos hcn]
  refine ct_of (hS 32 (by decide)) fn32 ?_
  refine ⟨by omega, by omega, by omega, by omega, ?_⟩
  refine ⟨_, rfl, ?_⟩
  refine ⟨_, rfl, ?_⟩
  refine ⟨by omega, partc rfl ⟨_, rfl, ?_⟩⟩
  refine cal1 (fz_own (ty := 24) rfl (Nat.le_refl 4) (Nat.le_refl _) rfl) (checkConn2_ok S hS ho ho2) (by omega) ?_
  rintro _ rfl
  rw [hcc]
  refine ⟨fun h => absurd rfl h, fun _ => ?_⟩
  refine ⟨_, rfl, ?_⟩
  refine ⟨_, rfl, ?_⟩
  refine callq rfl (mapsTo_ct S hS) (by omega) ?_
  rintro _ rfl
  refine rng_maps S hS (d := 4) ho ho2 hcn.1 hn20 (fun x s σ' => σ'[2]? = some (.live 22 [.lst 0 []]) ∧ σ'[3]? = some (.live 29 [pn 0]) ∧ σ'[5]? = some (.lp x) ∧ mps n m f g F G s = [])
    (fun σ' => ∃ y X t, σ'[5]? = some (.lp y) ∧ y.st ≠ .busy ∧ y.e = .ret ∧ σ'[2]? = some (.live 22 [pIs X]) ∧ σ'[3]? = some (.live 29 [pn 0]) ∧ mps n m f g F G m = X :: t) (by omega) ?_ ?_ ?_ ?_
  · exact ⟨rfl, rfl, rfl, rfl⟩
  · rintro s σ' hsm hno ⟨g2, g3, g5, hI⟩
    refine ⟨g2, g3, g5, ?_⟩
    show mps n m f g F G s ++ mp1 n m f g F G s = []
    rw [hI, mp1_no hno]; rfl
  · rintro s h σ' hsm hM ⟨g2, g3, g5, hI⟩
    have l5 : 5 < σ'.length := (List.getElem?_eq_some_iff.1 g5).1
    obtain ⟨t, ht⟩ := mps_pre (n := n) (m := m) (f := f) (g := g) (F := F) (G := G) (s := s + 1) (m' := m) (by omega)
    have hs1 : mps n m f g F G (s + 1) = [PL n h] := by
      show mps n m f g F G s ++ mp1 n m f g F G s = _
      rw [hI, mp1_yes ho.pr ho.pu ho.pos hcn.1 hM]; rfl
    rw [hs1] at ht
    have b2 : ∀ y, (σ'.set 5 y)[2]? = some (.live 22 [.lst 0 []]) := fun y => by rw [List.getElem?_set_ne (by omega)]; exact g2
    have b3 : ∀ y, (σ'.set 5 y)[3]? = some (.live 29 [pn 0]) := fun y => by rw [List.getElem?_set_ne (by omega)]; exact g3
    have b5 : ∀ y, (σ'.set 5 y)[5]? = some y := fun y => List.getElem?_set_self l5
    have b23 : ∀ y z, ((σ'.set 5 y).set 2 z)[3]? = some (.live 29 [pn 0]) := fun y z => by rw [List.getElem?_set_ne (by omega)]; exact b3 y
    have b235 : ∀ y z w, (((σ'.set 5 y).set 2 z).set 3 w)[5]? = some y := fun y z w => by rw [List.getElem?_set_ne (by omega), List.getElem?_set_ne (by omega)]; exact b5 y
    refine cy_of Opn.no g5 rfl rfl fun c k hc => ?_
    refine ⟨rfl, _, g5, rfl, ?_⟩
    refine ⟨_, _, b2 _, ⟨rfl, Nat.le_of_ble_eq_true rfl, rfl⟩, _, rfl, _, rfl, ?_⟩
    refine ⟨_, _, b23 _ _, ⟨rfl, Nat.le_of_ble_eq_true rfl, rfl⟩, _, rfl, _, rfl, ?_⟩
    refine ⟨_, b235 _ _ _, by dsimp only; omega, .inr ⟨rfl, _, PL n h, t, List.getElem?_set_self (by simp only [List.length_set]; exact l5), (fun h => by cases h), rfl, ?_, ?_, ht⟩⟩
    · show ((((σ'.set 5 _).set 2 _).set 3 _).set 5 _)[2]? = _
      rw [List.getElem?_set_ne (by omega), List.getElem?_set_ne (by omega), List.getElem?_set_self (by rw [List.length_set]; omega)]
      rfl
    · show ((((σ'.set 5 _).set 2 _).set 3 _).set 5 _)[3]? = _
      rw [List.getElem?_set_ne (by omega), List.getElem?_set_self (by rw [List.length_set, List.length_set]; omega)]
      rfl
  · rintro σ' (⟨g2, g3, g5, hI⟩ | ⟨y, X, t, g5, hy1, hy2, g2, g3, ht⟩)
    · have l5 : 5 < σ'.length := (List.getElem?_eq_some_iff.1 g5).1
      refine ⟨_, g5, (show LoopState.ready ≠ .busy from fun h => by cases h), ?_⟩
      have b2 : ∀ y, (σ'.set 5 y)[2]? = some (.live 22 [.lst 0 []]) := fun y => by rw [List.getElem?_set_ne (by omega)]; exact g2
      have b3 : ∀ y, (σ'.set 5 y)[3]? = some (.live 29 [pn 0]) := fun y => by rw [List.getElem?_set_ne (by omega)]; exact g3
      have b23 : ∀ y z, ((σ'.set 5 y).set 2 z)[3]? = some (.live 29 [pn 0]) := fun y z => by rw [List.getElem?_set_ne (by omega)]; exact b3 y
      refine ⟨_, _, b2 _, ⟨rfl, Nat.le_of_ble_eq_true rfl, rfl⟩, _, rfl, _, rfl, ?_⟩
      refine ⟨_, _, b23 _ _, ⟨rfl, Nat.le_of_ble_eq_true rfl, rfl⟩, _, rfl, _, rfl, ?_⟩
      refine ⟨_, load_c (contOf_live (show (((σ'.set 5 .dead).set 2 _).set 3 _)[2]? = _ by rw [List.getElem?_set_ne (by omega), List.getElem?_set_self (by rw [List.length_set]; omega)])) rfl rfl, ?_⟩
      refine ⟨_, load_c (contOf_live (show (((σ'.set 5 .dead).set 2 _).set 3 _)[3]? = _ by rw [List.getElem?_set_self (by rw [List.length_set, List.length_set]; omega)])) rfl rfl, ?_⟩
      exact endsq rfl (.inl ⟨hI, rfl⟩)
    · refine ⟨_, g5, hy1, ?_⟩
      rw [hy2]
      refine ⟨_, load_c (contOf_live (show (σ'.set 5 .dead)[2]? = _ by rw [List.getElem?_set_ne (by omega)]; exact g2)) rfl rfl, ?_⟩
      refine ⟨_, load_c (contOf_live (show (σ'.set 5 .dead)[3]? = _ by rw [List.getElem?_set_ne (by omega)]; exact g3)) rfl rfl, ?_⟩
      exact endsq rfl (.inr ⟨X, t, ht, rfl⟩)
end Go.PI
/- DIRECTIONS: numbers, and how the squares are cut anew. -/
open Go.Proofs
namespace Go.PI
open IM
set_option maxRecDepth 10000
set_option maxHeartbeats 4000000
open Classical in
noncomputable def floorZ (p q : Int) : Int := if h : ∃ k, FloorIs p q k then h.choose else 0
structure TS where
  f : Nat → Nat
  f' : Nat → Nat
  g : Nat → Nat
  g' : Nat → Nat
  p : Int
  q : Int
def shf (f f' : Nat → Nat) (k : Int) : Nat → Nat := if 0 ≤ k then it f k.toNat else it f' (-k).toNat
noncomputable def TS.step (s : TS) : TS :=
  { f := fun i => shf s.f s.f' (floorZ s.p s.q) (s.g i), f' := fun i => s.g' (shf s.f' s.f (floorZ s.p s.q) i), g := s.f', g' := s.f, p := s.q, q := -(s.p - floorZ s.p s.q * s.q) }
noncomputable def TS.fin (s : TS) : TS := if s.p < 0 then { s with f := s.f', f' := s.f, g := s.g', g' := s.g } else s
structure TS.Ok (n : Nat) (s : TS) : Prop where
  pr : IsP n s.f s.f'
  pu : IsP n s.g s.g'
theorem it_isP {n : Nat} {f f' : Nat → Nat} (h : IsP n f f') (k : Nat) : IsP n (it f k) (it f' k) := ⟨fun i hi => it_lt h hi k, fun i hi => it_lt h.inv hi k, fun i hi => by
      induction k with
      | zero => rfl
      | succ k ih => rw [show it f (k + 1) i = f (it f k i) from rfl, it_succ', h.gf _ (it_lt h hi k), ih], fun i hi => by
      induction k with
      | zero => rfl
      | succ k ih => rw [show it f' (k + 1) i = f' (it f' k i) from rfl, it_succ', h.fg _ (it_lt h.inv hi k), ih]⟩
theorem shf_isP {n : Nat} {f f' : Nat → Nat} (h : IsP n f f') (k : Int) : IsP n (shf f f' k) (shf f' f k) := by
  unfold shf
  split
  · exact it_isP h _
  · exact it_isP h.inv _
theorem TS.Ok.step {n : Nat} {s : TS} (h : s.Ok n) : s.step.Ok n := ⟨h.pu.comp (shf_isP h.pr _), h.pr.inv⟩
theorem TS.Ok.fin {n : Nat} {s : TS} (h : s.Ok n) : s.fin.Ok n := by
  unfold TS.fin
  split
  · exact ⟨h.pr.inv, h.pu.inv⟩
  · exact h
def TS.ci (s : TS) : Nat → Nat := cmi s.f s.f' s.g s.g'
end Go.PI
/- DIRECTIONS: numbers, of the program and of the reference. -/
open Go.Proofs
namespace Go.PI
open IM
set_option maxRecDepth 10000
set_option maxHeartbeats 4000000
variable (S : FuncId → Option (List AV → Heap → Option (AV × Heap)))
end Go.PI
/- DIRECTIONS: origamis cut anew, by the program. -/
open Go.Proofs
namespace Go.PI
open IM
set_option maxRecDepth 10000
set_option maxHeartbeats 4000000
variable (S : FuncId → Option (List AV → Heap → Option (AV × Heap)))
end Go.PI
/- DIRECTIONS: of the reference; the law. -/
open Go.Proofs
namespace Go.PI
open IM
set_option maxRecDepth 10000
set_option maxHeartbeats 4000000
variable (S : FuncId → Option (List AV → Heap → Option (AV × Heap)))
end Go.PI
/- STRATA of the reference; the law of directions. -/
open Go.Proofs
namespace Go.PI
open IM
set_option maxRecDepth 10000
set_option maxHeartbeats 4000000
variable (S : FuncId → Option (List AV → Heap → Option (AV × Heap)))
end Go.PI
/- THE LAW of maps. -/
open Go.Proofs
namespace Go.PI
open IM
set_option maxRecDepth 10000
set_option maxHeartbeats 4000000
variable (S : FuncId → Option (List AV → Heap → Option (AV × Heap)))
theorem fn31 : ctx.fn 31 = some c31 := by kernel_rfl
theorem isoM_bad (hS : OldO S) {r u r2 u2 : List Int} {e : Int} (he : e ≠ 0) (hC : Ct (ctx.plus S) 32 [pO r u, pO r2 u2] 80000 fun v => v = .tup [.lst 0 [], pn e]) : Ct (ctx.plus S) 31 [pO r u, pO r2 u2] 80010 fun v => v = .tup [.lst 0 [], pn e] := by
  refine ct_of (hS 31 (by decide)) fn31 ?_
  refine ⟨by omega, by omega, ?_⟩
  refine ⟨_, rfl, ?_⟩
  refine ⟨_, rfl, ?_⟩
  refine callq rfl hC (by omega) ?_
  rintro _ rfl
  refine ⟨fun h => absurd h he, fun _ => ?_⟩
  exact endsq rfl rfl
theorem isoM_ok (hS : OldO S) {r u r2 u2 : List Int} {n m : Nat} {f f' g g' F F' G G' : Nat → Nat} (ho : IsO r u n f f' g g') (ho2 : IsO r2 u2 m F F' G G') (hcn : Con2 n m f g F G) (hn20 : n ≤ 20) :
    Ct (ctx.plus S) 31 [pO r u, pO r2 u2] 80010 fun v => (mps n m f g F G m = [] ∧ v = .tup [.lst 0 [], pn 11]) ∨ ∃ x t, mps n m f g F G m = x :: t ∧ ((n ≠ m ∧ v = .tup [.lst 0 [], pn 11]) ∨ (n = m ∧ v = .tup [pIs x, pn 0])) := by
  have hl := ho.l1
  have hl2 := ho2.l1
  refine ct_of (hS 31 (by decide)) fn31 ?_
  refine ⟨by omega, by omega, ?_⟩
  refine ⟨_, rfl, ?_⟩
  refine ⟨_, rfl, ?_⟩
  refine callq rfl (covering_ok S hS ho ho2 hcn hn20) (by omega) ?_
  rintro _ (⟨h, rfl⟩ | ⟨x, t, h, rfl⟩)
  · refine ⟨fun h => absurd h (by decide), fun _ => ?_⟩
    exact endsq rfl (.inl ⟨h, rfl⟩)
  · refine ⟨fun _ => ?_, fun h => absurd rfl h⟩
    refine ⟨_, rfl, ?_⟩
    refine ⟨_, rfl, ?_⟩
    refine ⟨fun hne => ?_, fun heq => ?_⟩
    · exact ⟨⟨[], .inr ⟨x, t, h, .inl ⟨by omega, rfl⟩⟩⟩⟩
    · exact endsq rfl (.inr ⟨x, t, h, .inr ⟨by omega, rfl⟩⟩)
theorem fn5 : ctx.fn 5 = some c5 := by kernel_rfl
theorem mapsLaw_ct (hS : OldO S) (hA : Ct (ctx.plus S) 13 [] 0 fun r => r = .bool true) {r u r2 u2 : List Int} : Ct (ctx.plus S) 5 [pO r u, pO r2 u2] 2000000 fun v => v = .bool true := by
  refine ct_of (hS 5 (by decide)) fn5 ?_
  refine ⟨by omega, by omega, ?_⟩
  refine callq rfl hA (by omega) ?_
  rintro _ rfl
  refine ⟨_, rfl, ?_⟩
  refine callq rfl (few_ct S hS) (by omega) ?_
  rintro _ (⟨hf, rfl⟩ | ⟨hf, rfl⟩)
  rotate_left
  · exact endq rfl rfl
  refine ⟨_, rfl, ?_⟩
  refine callq rfl (few_ct S hS) (by omega) ?_
  rintro _ (⟨hf2, rfl⟩ | ⟨hf2, rfl⟩)
  rotate_left
  · exact endq rfl rfl
  have l1 : r.length ≤ 62 ∧ u.length ≤ 62 := by rcases hf with h | h <;> omega
  have l2 : r2.length ≤ 62 ∧ u2.length ≤ 62 := by rcases hf2 with h | h <;> omega
  have key : (∃ e : Int, e ≠ 0 ∧ Ct (ctx.plus S) 31 [pO r u, pO r2 u2] 80010 (fun v => v = .tup [.lst 0 [], pn e]) ∧ Ct (ctx.plus S) 32 [pO r u, pO r2 u2] 80000 (fun v => v = .tup [.lst 0 [], pn e]) ∧ Ct (ctx.plus S) 33 [pO r u, pO r2 u2] 700000 fun v => v = pn e) ∨
      ∃ n m f f' g g' F F' G G', IsO r u n f f' g g' ∧ IsO r2 u2 m F F' G G' ∧ Con2 n m f g F G := by
    by_cases h0 : chkA [(r, u), (r2, u2)] = 0
    · obtain ⟨n, m, f, f', g, g', F, F', G, G', ho, ho2⟩ := chkA_valid h0
      by_cases hc : Con2 n m f g F G
      · exact .inr ⟨n, m, f, f', g, g', F, F', G, G', ho, ho2, hc⟩
      · have e16 : cc2 n m f g F G = 16 := by unfold cc2; rw [if_neg hc]
        have h72 := checkConn2_ok S hS ho ho2
        have h33 := checkTwo_ok S hS ho ho2
        rw [e16] at h72 h33
        have h32 := covering_bad S hS (by omega) (by omega) (by omega) (by omega) (by decide) h72
        exact .inl ⟨16, by decide, isoM_bad S hS (by decide) h32, h32, h33⟩
    · have h32 := covering_bad S hS (by omega) (by omega) (by omega) (by omega) h0 (checkConn2_bad S hS (by omega) (by omega) (by omega) (by omega) h0)
      exact .inl ⟨_, h0, isoM_bad S hS h0 h32, h32, (checkTwo_bad S hS (by omega) (by omega) (by omega) (by omega) h0).mono (by omega) fun _ h => h⟩
  refine ⟨_, rfl, ?_⟩
  refine ⟨_, rfl, ?_⟩
  rcases key with ⟨e, he, h31, h32, h33⟩ | ⟨n, m, f, f', g, g', F, F', G, G', ho, ho2, hcn⟩
  · refine callq rfl h31 (by omega) ?_
    rintro _ rfl
    refine ⟨_, rfl, ?_⟩
    refine ⟨_, rfl, ?_⟩
    refine callq rfl h32 (by omega) ?_
    rintro _ rfl
    refine ⟨_, rfl, ?_⟩
    refine ⟨_, rfl, ?_⟩
    refine callq rfl h33 (by omega) ?_
    rintro _ rfl
    refine ⟨fun _ => ?_, fun h => absurd h he⟩
    refine ⟨fun _ => ?_, fun h => absurd rfl h⟩
    refine ⟨fun _ => ?_, fun h => absurd rfl h⟩
    refine ⟨fun _ => ?_, fun h => absurd rfl h⟩
    refine ⟨fun _ => ?_, fun h => absurd rfl h⟩
    exact endq rfl rfl
  · have hn12 : n ≤ 12 := by have := ho.l1; have := ho.le; rcases hf with h | h <;> omega
    have hn := ho.le
    have hm := ho2.le
    have hl := ho.l1
    have hl2 := ho2.l1
    have hml := mps_len (n := n) (m := m) (f := f) (g := g) (F := F) (G := G) m
    have hmm := mps_mem (n := n) (m := m) (f := f) (g := g) (F := F) (G := G) m
    have e0 : cc2 n m f g F G = 0 := by unfold cc2; rw [if_pos hcn]
    refine callq rfl (isoM_ok S hS ho ho2 hcn (by omega)) (by omega) ?_
    intro v31 hv31
    have hv31' : ∃ I e1, v31 = .tup [I, pn e1] ∧ cloA I = true ∧ ((mps n m f g F G m = [] ∧ I = .lst 0 [] ∧ e1 = 11) ∨ ∃ x t, mps n m f g F G m = x :: t ∧ ((n ≠ m ∧ I = .lst 0 [] ∧ e1 = 11) ∨ (n = m ∧ I = pIs x ∧ e1 = 0))) := by
      rcases hv31 with ⟨h, rfl⟩ | ⟨x, t, h, ⟨hne, rfl⟩ | ⟨heq, rfl⟩⟩
      · exact ⟨_, _, rfl, rfl, .inl ⟨h, rfl, rfl⟩⟩
      · exact ⟨_, _, rfl, rfl, .inr ⟨x, t, h, .inl ⟨hne, rfl, rfl⟩⟩⟩
      · exact ⟨_, _, rfl, rfl, .inr ⟨x, t, h, .inr ⟨heq, rfl, rfl⟩⟩⟩
    obtain ⟨I, e1, rfl, hI, hcase⟩ := hv31'
    clear hv31
    refine ⟨_, rfl, ?_⟩
    refine ⟨_, rfl, ?_⟩
    refine callq rfl (covering_ok S hS ho ho2 hcn (by omega)) (by omega) ?_
    rintro _ (⟨hmp, rfl⟩ | ⟨x, t, hmp, rfl⟩)
    · refine ⟨_, rfl, ?_⟩
      refine ⟨_, rfl, ?_⟩
      refine callq rfl (checkTwo_ok S hS ho ho2) (by omega) ?_
      rintro _ rfl
      rw [e0]
      refine ⟨fun h => absurd rfl h, fun _ => ?_⟩
      refine ⟨_, rfl, ?_⟩
      refine ⟨_, rfl, ?_⟩
      refine callq rfl (rmaps_ct S hS ho ho2 hcn.1) (by omega) ?_
      rintro _ rfl
      rcases hcase with ⟨-, rfl, rfl⟩ | ⟨x, t, h, -⟩
      · rw [hmp]
        refine ⟨fun _ => ?_, fun h => absurd rfl h⟩
        refine ⟨fun _ => ?_, fun h => absurd rfl h⟩
        refine ⟨fun _ => ?_, fun h => absurd rfl h⟩
        refine ⟨fun _ => ?_, fun h => absurd rfl h⟩
        refine ⟨fun _ => ?_, fun h => absurd rfl h⟩
        exact endq rfl rfl
      · rw [hmp] at h; cases h
    · have hxl := hmm x (by rw [hmp]; simp)
      have h00 : (mps n m f g F G m)[0]? = some x := by rw [hmp]; rfl
      have hpos : 0 < (mps n m f g F G m).length := by rw [hmp]; simp
      refine ⟨_, rfl, ?_⟩
      refine ⟨_, rfl, ?_⟩
      refine callq rfl (checkTwo_ok S hS ho ho2) (by omega) ?_
      rintro _ rfl
      rw [e0]
      refine ⟨fun h => absurd rfl h, fun _ => ?_⟩
      refine ⟨_, rfl, ?_⟩
      refine ⟨_, rfl, ?_⟩
      refine callq rfl (rmaps_ct S hS ho ho2 hcn.1) (by omega) ?_
      rintro _ rfl
      refine ⟨fun h => absurd h (by omega), fun _ => ?_⟩
      refine ⟨fun h => absurd rfl h, fun _ => ?_⟩
      refine ⟨⟨⟨by omega, by omega⟩, len_map_le (by omega)⟩, ?_⟩
      refine ⟨_, ld (at_map h00) (by show _ * 1 = 0; omega), ?_⟩
      refine callq rfl (ints_ct S hS (xs := x) (ys := x) (by omega) (by omega)) (by omega) ?_
      rintro _ rfl
      rw [decide_eq_true rfl]
      refine ⟨by kernel_rfl, ?_⟩
      refine ⟨_, rfl, rfl, ?_⟩
      refine callq rfl (size_ct S hS) (by omega) ?_
      rintro _ rfl
      refine ⟨_, rfl, rfl, ?_⟩
      refine callq rfl (size_ct S hS) (by omega) ?_
      rintro _ rfl
      rcases hcase with ⟨h, -⟩ | ⟨x', t', h, ⟨hne, rfl, rfl⟩ | ⟨heq, rfl, rfl⟩⟩
      · rw [hmp] at h; cases h
      · refine ⟨fun _ => ?_, fun h => absurd h (by omega)⟩
        refine ⟨fun _ => ?_, fun h => absurd rfl h⟩
        refine ⟨fun _ => ?_, fun h => absurd rfl h⟩
        exact endq rfl rfl
      · rw [hmp] at h
        cases h
        refine ⟨fun h => absurd h (by omega), fun _ => ?_⟩
        refine ⟨fun _ => ?_, fun h => absurd rfl h⟩
        refine ⟨⟨⟨by omega, by omega⟩, len_map_le (by omega)⟩, ?_⟩
        refine ⟨_, ld (at_map h00) (by show _ * 1 = 0; omega), ?_⟩
        refine callq rfl (ints_ct S hS (xs := x) (ys := x) (by omega) (by omega)) (by omega) ?_
        rintro _ rfl
        rw [decide_eq_true rfl]
        exact endq rfl rfl
end Go.PI
