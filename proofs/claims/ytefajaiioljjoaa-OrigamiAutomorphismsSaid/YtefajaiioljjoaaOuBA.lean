/- Own work of the verifier: OzE OzF OzG OvA OgAe OgAf OgAg OvB OvC. -/
import Derived.Test.YtefajaiioljjoaaOuAZ
import Derived.Test.YtefajaiioljjoaaOuAT
import Derived.Test.YtefajaiioljjoaaOuAY
set_option linter.all false
set_option exponentiation.threshold 3000
set_option linter.deprecated false
/- ALL MAPS: the list of the reference, the loop of the program. -/
open Go.Proofs
namespace Go.PI
open IM
set_option maxRecDepth 10000
set_option maxHeartbeats 4000000
variable (S : FuncId → Option (List AV → Heap → Option (AV × Heap)))
open Classical in
noncomputable def mp1 (n m : Nat) (f g F G : Nat → Nat) (s : Nat) : List (List Int) := if h : ∃ h, MapAt n m s f g F G h then [PL n h.choose] else []
noncomputable def mps (n m : Nat) (f g F G : Nat → Nat) : Nat → List (List Int)
  | 0 => []
  | k + 1 => mps n m f g F G k ++ mp1 n m f g F G k
section
variable {n m k : Nat} {f f' g g' F F' G G' h : Nat → Nat}
theorem mp1_yes (pf : IsP n f f') (pg : IsP n g g') (h0 : 0 < n) (hcn : Conn n f g) (hm : MapAt n m k f g F G h) : mp1 n m f g F G k = [PL n h] := by
  have he : ∃ h, MapAt n m k f g F G h := ⟨h, hm⟩
  unfold mp1
  rw [dif_pos he, map_PL pf pg h0 hcn he.choose_spec hm]
theorem mp1_no (hm : ∀ h, ¬ MapAt n m k f g F G h) : mp1 n m f g F G k = [] := by
  unfold mp1
  rw [dif_neg (fun ⟨h, hh⟩ => hm h hh)]
theorem mp1_len : (mp1 n m f g F G k).length ≤ 1 ∧ ∀ x ∈ mp1 n m f g F G k, x.length = n := by
  unfold mp1
  split
  · refine ⟨Nat.le_refl _, fun x hx => ?_⟩
    rw [List.mem_singleton.1 hx, PL_len]
  · exact ⟨Nat.zero_le _, fun x hx => by cases hx⟩
theorem mps_len : ∀ k, (mps n m f g F G k).length ≤ k
  | 0 => Nat.le_refl _
  | k + 1 => by
    show (mps n m f g F G k ++ mp1 n m f g F G k).length ≤ k + 1
    rw [List.length_append]
    have := mps_len k
    have := (mp1_len (n := n) (m := m) (k := k) (f := f) (g := g) (F := F) (G := G)).1
    omega
theorem mps_mem : ∀ k, ∀ x ∈ mps n m f g F G k, x.length = n
  | 0, x, hx => by cases hx
  | k + 1, x, hx => by
    rcases List.mem_append.1 (show x ∈ mps n m f g F G k ++ mp1 n m f g F G k from hx) with hx | hx
    · exact mps_mem k x hx
    · exact mp1_len.2 x hx
end
theorem fn34 : ctx.fn 34 = some c34 := by kernel_rfl
theorem rmaps_ct (hS : OldO S) {r u r2 u2 : List Int} {n m : Nat} {f f' g g' F F' G G' : Nat → Nat} (ho : IsO r u n f f' g g') (ho2 : IsO r2 u2 m F F' G G') (hcn : Conn n f g) :
    Ct (ctx.plus S) 34 [pO r u, pO r2 u2] 700000 fun v => v = pM (mps n m f g F G m) := by
  have hn := ho.le
  have hm := ho2.le
  have h0 := ho.pos
  have hl := ho.l1
  have hl2 := ho2.l1
  refine ct_of (hS 34 (by decide)) fn34 ?_
  refine ⟨by omega, by omega, ?_⟩
  refine ⟨fun q st => ∃ (k b : Nat) (v : PV) (σ : List StB) (T : List PV), st = ⟨T, σ, b⟩ ∧ Gt T 28 [(2, .optr 0 0), (3, .optr 1 0), (5, v), (6, pn k)] ∧ q = m - k ∧ k ≤ m ∧ b ≤ 10 + 10010 * k ∧ Hid (σ[0]? = some (.live 24 [pIs r, pIs u]) ∧ σ[1]? = some (.live 24 [pIs r2, pIs u2]) ∧ (∀ q, q < 2 → blkOf v ≠ some q) ∧ Gr pIs 22 v σ (mps n m f g F G k)), ⟨_, ci ⟨0, _, .nils, _, _, rfl, ⟨rfl, rfl, rfl, rfl, rfl, trivial⟩, rfl, Nat.zero_le _, by omega, ⟨rfl, rfl, (fun q _ h => by cases h), .nil⟩⟩⟩, ?_⟩
  rintro _ st ⟨k, b, v, σ, T, rfl, hT, rfl, hk, hb, hh⟩
  obtain ⟨J, rfl⟩ := gt_open hT
  clear hT
  obtain ⟨d0, d1, d2, d3⟩ := hh.h
  have l1 := (List.getElem?_eq_some_iff.1 d1).1
  have hml := mps_len (n := n) (m := m) (f := f) (g := g) (F := F) (G := G) k
  refine ⟨_, load_c (contOf_live d1) rfl rfl, ?_⟩
  refine callq rfl (size_ct S hS) (by omega) ?_
  rintro _ rfl
  refine ⟨fun hlt => ?_, fun hge => ?_⟩
  · have hkm : k < m := by omega
    refine ⟨_, load_c (contOf_live d0) rfl rfl, ?_⟩
    refine ⟨_, load_c (contOf_live d1) rfl rfl, ?_⟩
    refine callq rfl (rmapTo_ct S hS ho ho2 hcn hkm) (by omega) ?_
    rintro _ (⟨h, hM, rfl⟩ | ⟨hM, D, rfl⟩)
    · refine ⟨by omega, part1 fzL ⟨[pIs (PL n h)], rfl, ?_⟩⟩
      refine appG (f := pIs) (e := 22) (y := PL n h) d3.push push_cont rfl rfl rfl rfl (by kernel_rfl) rfl rfl (by omega) (by omega) fun v' σ' hv' hkp hbv => ?_
      have hne : ∀ q, q < σ.length → blkOf v' ≠ some q := fun q hq e => by
        rw [hbv] at e; have := Option.some.inj e; rw [List.length_append, List.length_singleton] at this; omega
      refine ⟨⟨by omega, by omega⟩, ?_⟩
      exact ⟨_, by omega, ci ⟨k + 1, _, v', σ', _, rfl, ⟨rfl, rfl, rfl, rfl, rfl, trivial⟩, rfl, by omega, by omega, ⟨hkp 0 _ (d2 0 (by omega)) (push_old d0), hkp 1 _ (d2 1 (by omega)) (push_old d1), fun q hq => hne q (by omega), by show Gr pIs 22 v' σ' (mps n m f g F G k ++ mp1 n m f g F G k); rw [mp1_yes ho.pr ho.pu h0 hcn hM]; exact hv'⟩⟩⟩
    · refine ⟨⟨by omega, by omega⟩, ?_⟩
      exact ⟨_, by omega, ci ⟨k + 1, _, v, σ, _, rfl, ⟨rfl, rfl, rfl, rfl, rfl, trivial⟩, rfl, by omega, by omega, ⟨d0, d1, d2, by show Gr pIs 22 v σ (mps n m f g F G k ++ mp1 n m f g F G k); rw [mp1_no hM, List.append_nil]; exact d3⟩⟩⟩
  · have hkm : k = m := by omega
    subst hkm
    obtain ⟨σ', hf⟩ := d3.fz
    exact endf hf rfl
theorem fn77 : ctx.fn 77 = some c77 := by kernel_rfl
theorem fn118 : ctx.fn 118 = some c118 := by kernel_rfl
theorem fz_fnc2 {f i j : Nat} {σ : List StB} {t1 t2 : TypeId} {c1 c2 : List PV} (h1 : contOf σ i = some (t1, c1)) (h2 : contOf σ j = some (t2, c2)) : ∃ σ', Fz (.fnc f [.optr i 0, .optr j 0]) σ (.fnc f [.lptr c1, .lptr c2]) σ' :=
  ⟨_, fun K hK => ⟨t1, c1, h1, Nat.zero_le _, t2, c2, by rw [contOf_set h1]; exact h2, Nat.zero_le _, hK⟩⟩
theorem mapsTo_ct (hS : OldO S) {r u r2 u2 : List Int} : Ct (ctx.plus S) 77 [pO r u, pO r2 u2] 2 fun w => w = .fnc 118 [.lptr [pIs r2, pIs u2], .lptr [pIs r, pIs u]] := by
  refine ct_of (hS 77 (by decide)) fn77 ?_
  refine ⟨by omega, by omega, ?_⟩
  obtain ⟨σ', hf⟩ := fz_fnc2 (f := 118) (i := 1) (j := 0) (σ := [.live 24 [pIs r, pIs u], .live 24 [pIs r2, pIs u2]]) rfl rfl
  exact endf hf rfl
theorem yldq {C : Ctx} {c k d i : Nat} {σ : List StB} {ps : List PV} {K : PV → List StB → Nat → Prop} {Q : Bool → List StB → Prop} (h : Cy C i ps σ d Q) (hk : k + d ≤ c) (hK : ∀ r σ', Q r σ' → K (.bool r) σ' (k + d)) : YldK false C c k σ i ps K :=
  ⟨rfl, [], ⟨[], by cases ps <;> exact ⟨d, Q, hk, h, hK⟩⟩⟩
theorem maps_cm (hS : OldO S) {r u r2 u2 : List Int} {n m i d : Nat} {f f' g g' F F' G G' : Nat → Nat} (ho : IsO r u n f f' g g') (ho2 : IsO r2 u2 m F F' G G') (hcn : Conn n f g) (hn20 : n ≤ 20) {σ0 : List StB} (Inv : Nat → List StB → Prop) (Fin : List StB → Prop)
    (hy : ∀ (s : Nat) (h : Nat → Nat) (σ : List StB), s < m → MapAt n m s f g F G h → Inv s σ → Cy (ctx.plus S) i [pIs (PL n h)] σ d fun b σ' => (b = true ∧ Inv (s + 1) σ') ∨ (b = false ∧ Fin σ'))
    (hskip : ∀ (s : Nat) (σ : List StB), s < m → (∀ h, ¬ MapAt n m s f g F G h) → Inv s σ → Inv (s + 1) σ) (hI0 : Inv 0 σ0) :
    Cm (ctx.plus S) 118 [.yld i, .lptr [pIs r2, pIs u2], .lptr [pIs r, pIs u]] σ0 (60 * (1000 + d)) fun w σ' => w = .tup [] ∧ (Inv m σ' ∨ Fin σ') := by
  have hn := ho.le
  have hm := ho2.le
  have hl2 := ho2.l1
  have hmd : m * (1000 + d) ≤ 60 * (1000 + d) := Nat.mul_le_mul_right _ hm
  refine cm_of Opn.no (hS 118 (by decide)) fn118 fun c k0 hc => ?_
  refine ⟨by simp, ?_⟩
  refine ⟨_, rfl, ?_⟩
  refine ⟨fun q st => ∃ (s k : Nat) (σ : List StB) (T : List PV), st = ⟨T, σ, k⟩ ∧ Gt T 28 [(0, .yld i), (1, .lptr [pIs r2, pIs u2]), (2, .lptr [pIs r, pIs u]), (9, pn r2.length), (10, pn s)] ∧ q = m - s ∧ s ≤ m ∧ k ≤ k0 + s * (1000 + d) ∧ Hid (Inv s σ), ⟨_, ci ⟨0, k0, σ0, _, rfl, ⟨rfl, rfl, rfl, rfl, rfl, rfl, trivial⟩, rfl, Nat.zero_le _, by omega, ⟨hI0⟩⟩⟩, ?_⟩
  rintro q st ⟨s, k, σ, T, rfl, hT, hq, hs, hk, hI⟩
  obtain ⟨J, rfl⟩ := gt_open hT
  clear hT
  refine ⟨fun hlt => ?_, fun hge => ?_⟩
  · have hsm : s < m := by omega
    have hmul : (s + 1) * (1000 + d) = s * (1000 + d) + (1000 + d) := Nat.succ_mul s (1000 + d)
    have hle : (s + 1) * (1000 + d) ≤ m * (1000 + d) := Nat.mul_le_mul_right _ hsm
    refine ⟨_, rfl, ?_⟩
    refine ⟨_, rfl, ?_⟩
    refine callq rfl (mapTo_ct S hS ho ho2 hcn hsm hn20) (by omega) ?_
    rintro _ (⟨h, hM, rfl⟩ | ⟨hM, rfl⟩)
    · refine yldq (hy s h σ hsm hM hI.h) (by omega) ?_
      rintro b σ' (⟨rfl, hI2⟩ | ⟨rfl, hF⟩)
      · refine ⟨⟨by omega, by omega⟩, ?_⟩
        exact ⟨_, by omega, ci ⟨s + 1, _, σ', _, rfl, ⟨rfl, rfl, rfl, rfl, rfl, rfl, trivial⟩, rfl, by omega, by omega, ⟨hI2⟩⟩⟩
      · refine endm [] (by dsimp only; omega) ?_
        exact ⟨rfl, .inr hF⟩
    · refine ⟨⟨by omega, by omega⟩, ?_⟩
      exact ⟨_, by omega, ci ⟨s + 1, _, σ, _, rfl, ⟨rfl, rfl, rfl, rfl, rfl, rfl, trivial⟩, rfl, by omega, by omega, ⟨hskip s σ hsm hM hI.h⟩⟩⟩
  · have hsm : s = m := by omega
    subst hsm
    refine endm [] (by dsimp only; omega) ?_
    exact ⟨rfl, .inl hI.h⟩
end Go.PI
/- COVERINGS AND ISOMORPHISMS, of the program; two origamis that are connected. -/
open Go.Proofs
namespace Go.PI
open IM
set_option maxRecDepth 10000
set_option maxHeartbeats 4000000
variable (S : FuncId → Option (List AV → Heap → Option (AV × Heap)))
section
variable {r u r2 u2 : List Int} {n m : Nat} {f f' g g' F F' G G' : Nat → Nat}
end
end Go.PI
/- COVERINGS AND ISOMORPHISMS, of the program. -/
open Go.Proofs
namespace Go.PI
open IM
set_option maxRecDepth 10000
set_option maxHeartbeats 4000000
variable (S : FuncId → Option (List AV → Heap → Option (AV × Heap)))
theorem mps_pre {n m : Nat} {f g F G : Nat → Nat} : ∀ {s m' : Nat}, s ≤ m' → ∃ t, mps n m f g F G m' = mps n m f g F G s ++ t
  | s, 0, h => ⟨[], by rw [show s = 0 by omega]; rfl⟩
  | s, k + 1, h => by
    by_cases e : s = k + 1
    · subst e; exact ⟨[], by rw [List.append_nil]⟩
    · obtain ⟨t, ht⟩ := mps_pre (n := n) (m := m) (f := f) (g := g) (F := F) (G := G) (s := s) (m' := k) (by omega)
      exact ⟨t ++ mp1 n m f g F G k, by show mps n m f g F G k ++ mp1 n m f g F G k = _; rw [ht, List.append_assoc]⟩
theorem rng_maps (hS : OldO S) {r u r2 u2 : List Int} {n m d c k : Nat} {f f' g g' F F' G G' : Nat → Nat} (ho : IsO r u n f f' g g') (ho2 : IsO r2 u2 m F F' G G') (hcn : Conn n f g) (hn20 : n ≤ 20) {x : LpD} {σ : List StB} {K : Ex → List StB → Nat → Prop} (Inv : LpD → Nat → List StB → Prop) (Fin : List StB → Prop) (hk : k + 2 + 60 * (1000 + d) ≤ c)
    (hI0 : Inv x 0 (σ ++ [.lp x])) (hskip : ∀ (s : Nat) (σ : List StB), s < m → (∀ h, ¬ MapAt n m s f g F G h) → Inv x s σ → Inv x (s + 1) σ)
    (hy : ∀ (s : Nat) (h : Nat → Nat) (σ' : List StB), s < m → MapAt n m s f g F G h → Inv x s σ' → Cy (ctx.plus S) σ.length [pIs (PL n h)] σ' d fun b σ2 => (b = true ∧ Inv x (s + 1) σ2) ∨ (b = false ∧ Fin σ2))
    (hK : ∀ σ', Inv x m σ' ∨ Fin σ' → rngE σ' σ.length fun e => K e (σ'.set σ.length .dead) (k + 2 + 60 * (1000 + d))) : RngK none (ctx.plus S) c (.fnc 118 [.lptr [pIs r2, pIs u2], .lptr [pIs r, pIs u]]) x σ k K :=
  ⟨118, [.lptr [pIs r2, pIs u2], .lptr [pIs r, pIs u]], .inr rfl, rfl, [], show ∃ _ _, _ ∧ _ ∧ _ from ⟨60 * (1000 + d), _, hk, maps_cm S hS ho ho2 hcn hn20 (Inv x) Fin hy hskip hI0, fun r σ' h => hK σ' h.2⟩⟩
end Go.PI
/- AUTOMORPHISMS: squares that they take to each other. -/
open Go.Proofs
namespace Go.PI
open IM
def Au (n : Nat) (f g h : Nat → Nat) : Prop := ∃ s, s < n ∧ MapAt n n s f g f g h
def Eo (n : Nat) (f g : Nat → Nat) (x y : Nat) : Prop := ∃ h, Au n f g h ∧ h x = y
structure Ca (n : Nat) (f f' g g' : Nat → Nat) : Prop where
  pf : IsP n f f'
  pg : IsP n g g'
  h0 : 0 < n
  cn : Conn n f g
section
variable {n : Nat} {f f' g g' h k : Nat → Nat} {x y z : Nat}
theorem Au.lt (a : Au n f g h) (hx : x < n) : h x < n := by obtain ⟨s, -, hm⟩ := a; exact hm.lt x hx
theorem Au.c (a : Au n f g h) (hx : x < n) : h (f x) = f (h x) ∧ h (g x) = g (h x) := by obtain ⟨s, -, hm⟩ := a; exact hm.c x hx
theorem au_id (h0 : 0 < n) : Au n f g fun x => x := ⟨0, h0, rfl, fun x hx => hx, fun x hx => ⟨rfl, rfl⟩⟩
theorem Au.comp (C : Ca n f f' g g') (a : Au n f g h) (b : Au n f g k) : Au n f g fun x => k (h x) :=
  ⟨k (h 0), b.lt (a.lt C.h0), rfl, fun x hx => b.lt (a.lt hx), fun x hx => ⟨by show k (h (f x)) = f (k (h x)); rw [(a.c hx).1, (b.c (a.lt hx)).1], by show k (h (g x)) = g (k (h x)); rw [(a.c hx).2, (b.c (a.lt hx)).2]⟩⟩
theorem Ca.rch (C : Ca n f f' g g') (hx : x < n) (hy : y < n) : Rch f g x y := ((C.cn x hx).symm C.pf C.pg C.h0).trans (C.cn y hy)
theorem Au.free (C : Ca n f f' g g') (a : Au n f g h) (b : Au n f g k) (hx : x < n) (e : h x = k x) (hy : y < n) : h y = k y := by
  have key : ∀ y, Rch f g x y → y < n ∧ h y = k y := fun y hr => by
    induction hr with
    | refl => exact ⟨hx, e⟩
    | @f y _ ih => exact ⟨C.pf.lt _ ih.1, by rw [(a.c ih.1).1, (b.c ih.1).1, ih.2]⟩
    | @g y _ ih => exact ⟨C.pg.lt _ ih.1, by rw [(a.c ih.1).2, (b.c ih.1).2, ih.2]⟩
  exact (key y (C.rch hx hy)).2
theorem Au.onto (C : Ca n f f' g g') (a : Au n f g h) (hy : y < n) : ∃ x, x < n ∧ h x = y := by
  have key : ∀ y, Rch f g (h 0) y → ∃ x, x < n ∧ h x = y := fun y hr => by
    induction hr with
    | refl => exact ⟨0, C.h0, rfl⟩
    | @f y _ ih => obtain ⟨x, hx, rfl⟩ := ih; exact ⟨f x, C.pf.lt _ hx, (a.c hx).1⟩
    | @g y _ ih => obtain ⟨x, hx, rfl⟩ := ih; exact ⟨g x, C.pg.lt _ hx, (a.c hx).2⟩
  exact key y (C.rch (a.lt C.h0) hy)
theorem Au.inj (C : Ca n f f' g g') (a : Au n f g h) (hx : x < n) (hy : y < n) (e : h x = h y) : x = y := by
  refine Classical.byContradiction fun hne => ?_
  have := len_le_of (l := List.range n) (m := ((List.range n).erase y).map h) List.nodup_range fun z hz => by
    obtain ⟨w, hw, rfl⟩ := a.onto C (List.mem_range.1 hz)
    by_cases e2 : w = y
    · subst e2
      exact List.mem_map.2 ⟨x, (List.Nodup.mem_erase_iff List.nodup_range).2 ⟨hne, List.mem_range.2 hx⟩, e⟩
    · exact List.mem_map.2 ⟨w, (List.Nodup.mem_erase_iff List.nodup_range).2 ⟨e2, List.mem_range.2 hw⟩, rfl⟩
  rw [List.length_map, List.length_erase_of_mem (List.mem_range.2 hy), List.length_range] at this
  have := C.h0
  omega
theorem Au.inv (C : Ca n f f' g g') (a : Au n f g h) : ∃ k, Au n f g k ∧ ∀ x, x < n → k (h x) = x := by
  have hex : ∀ y, ∃ x, y < n → x < n ∧ h x = y := fun y => by
    by_cases hy : y < n
    · obtain ⟨x, h1, h2⟩ := a.onto C hy; exact ⟨x, fun _ => ⟨h1, h2⟩⟩
    · exact ⟨0, fun h => absurd h hy⟩
  refine ⟨fun y => (hex y).choose, ⟨(hex 0).choose, ((hex 0).choose_spec C.h0).1, rfl, fun x hx => ((hex x).choose_spec hx).1, fun x hx => ?_⟩, fun x hx => ?_⟩
  · obtain ⟨a1, a2⟩ := (hex x).choose_spec hx
    obtain ⟨b1, b2⟩ := (hex (f x)).choose_spec (C.pf.lt x hx)
    obtain ⟨c1, c2⟩ := (hex (g x)).choose_spec (C.pg.lt x hx)
    refine ⟨a.inj C b1 (C.pf.lt _ a1) ?_, a.inj C c1 (C.pg.lt _ a1) ?_⟩
    · rw [b2, (a.c a1).1, a2]
    · rw [c2, (a.c a1).2, a2]
  · obtain ⟨a1, a2⟩ := (hex (h x)).choose_spec (a.lt hx)
    exact a.inj C a1 hx a2
theorem Eo.lt (e : Eo n f g x y) (hx : x < n) : y < n := by obtain ⟨h, a, rfl⟩ := e; exact a.lt hx
theorem Eo.refl (h0 : 0 < n) : Eo n f g x x := ⟨_, au_id h0, rfl⟩
theorem Eo.trans (C : Ca n f f' g g') (a : Eo n f g x y) (b : Eo n f g y z) : Eo n f g x z := by
  obtain ⟨h, ha, rfl⟩ := a
  obtain ⟨k, hb, rfl⟩ := b
  exact ⟨_, ha.comp C hb, rfl⟩
theorem Eo.symm (C : Ca n f f' g g') (hx : x < n) (a : Eo n f g x y) : Eo n f g y x := by
  obtain ⟨h, ha, rfl⟩ := a
  obtain ⟨k, hk, e⟩ := ha.inv C
  exact ⟨k, hk, e x hx⟩
theorem Eo.mf (hx : x < n) (a : Eo n f g x y) : Eo n f g (f x) (f y) := by
  obtain ⟨h, ha, rfl⟩ := a
  exact ⟨h, ha, (ha.c hx).1⟩
theorem Eo.mg (hx : x < n) (a : Eo n f g x y) : Eo n f g (g x) (g y) := by
  obtain ⟨h, ha, rfl⟩ := a
  exact ⟨h, ha, (ha.c hx).2⟩
theorem Eo.fb (C : Ca n f f' g g') (hx : x < n) (hy : y < n) (a : Eo n f g (f x) (f y)) : Eo n f g x y := by
  obtain ⟨h, ha, e⟩ := a
  rw [(ha.c hx).1] at e
  exact ⟨h, ha, C.pf.inj (ha.lt hx) hy e⟩
theorem Eo.gb (C : Ca n f f' g g') (hx : x < n) (hy : y < n) (a : Eo n f g (g x) (g y)) : Eo n f g x y := by
  obtain ⟨h, ha, e⟩ := a
  rw [(ha.c hx).2] at e
  exact ⟨h, ha, C.pg.inj (ha.lt hx) hy e⟩
open Classical in
/-- the least square of a class -/
noncomputable def ls (n : Nat) (f g : Nat → Nat) (x : Nat) : Nat := ((List.range n).filter fun y => decide (Eo n f g x y)).headD 0
theorem ls_spec (C : Ca n f f' g g') (hx : x < n) : Eo n f g x (ls n f g x) ∧ ∀ y, Eo n f g x y → ls n f g x ≤ y := by
  have hmem : ∀ y, y ∈ ((List.range n).filter fun y => @decide (Eo n f g x y) (Classical.propDecidable _)) ↔ y < n ∧ Eo n f g x y := fun y => by
    rw [List.mem_filter, List.mem_range]; simp
  have hp : ((List.range n).filter fun y => @decide (Eo n f g x y) (Classical.propDecidable _)).Pairwise (· < ·) := List.Pairwise.filter _ List.pairwise_lt_range
  unfold ls
  cases hc : (List.range n).filter fun y => @decide (Eo n f g x y) (Classical.propDecidable _) with
  | nil =>
    have := (hmem x).2 ⟨hx, Eo.refl C.h0⟩
    rw [hc] at this
    cases this
  | cons a t =>
    rw [hc] at hmem hp
    refine ⟨((hmem a).1 (by simp)).2, fun y hy => ?_⟩
    show a ≤ y
    rcases List.mem_cons.1 ((hmem y).2 ⟨hy.lt hx, hy⟩) with e | e
    · omega
    · have := List.rel_of_pairwise_cons hp e; omega
theorem ls_lt (C : Ca n f f' g g') (hx : x < n) : ls n f g x < n := (ls_spec C hx).1.lt hx
theorem ls_le (C : Ca n f f' g g') (hx : x < n) : ls n f g x ≤ x := (ls_spec C hx).2 x (Eo.refl C.h0)
theorem ls_eq (C : Ca n f f' g g') (hx : x < n) (e : Eo n f g x y) : ls n f g x = ls n f g y := by
  have hy := e.lt hx
  obtain ⟨a1, a2⟩ := ls_spec C hx
  obtain ⟨b1, b2⟩ := ls_spec C hy
  have := a2 _ (e.trans C b1)
  have := b2 _ ((e.symm C hx).trans C a1)
  omega
theorem ls_iff (C : Ca n f f' g g') (hx : x < n) (hy : y < n) : ls n f g x = ls n f g y ↔ Eo n f g x y := by
  refine ⟨fun e => ?_, ls_eq C hx⟩
  have := (ls_spec C hy).1.symm C hy
  rw [← e] at this
  exact (ls_spec C hx).1.trans C this
theorem ls_ls (C : Ca n f f' g g') (hx : x < n) : ls n f g (ls n f g x) = ls n f g x := (ls_eq C hx (ls_spec C hx).1).symm
noncomputable def fsT (n : Nat) (f g : Nat → Nat) (m : Nat) : List Nat := (List.range m).filter fun x => decide (ls n f g x = x)
theorem mem_fsT {m : Nat} : x ∈ fsT n f g m ↔ x < m ∧ ls n f g x = x := by
  unfold fsT
  rw [List.mem_filter, List.mem_range]; simp
theorem fsT_yes {m : Nat} (h : ls n f g m = m) : fsT n f g (m + 1) = fsT n f g m ++ [m] := by
  unfold fsT
  rw [List.range_succ, List.filter_append, List.filter_cons_of_pos (by simpa using h)]
  rfl
theorem fsT_no {m : Nat} (h : ¬ ls n f g m = m) : fsT n f g (m + 1) = fsT n f g m := by
  unfold fsT
  rw [List.range_succ, List.filter_append, List.filter_cons_of_neg (by simpa using h)]
  simp
theorem fsT_len {m : Nat} : (fsT n f g m).length ≤ m := by
  have := List.length_filter_le (fun x => decide (ls n f g x = x)) (List.range m)
  rw [List.length_range] at this
  exact this
theorem fsT_nodup {m : Nat} : (fsT n f g m).Nodup := by
  unfold fsT List.Nodup
  exact (List.Pairwise.filter _ List.pairwise_lt_range).imp fun h e => by omega
theorem fsT_pre {m : Nat} : ∀ (j : Nat), ∃ t, fsT n f g (m + j) = fsT n f g m ++ t
  | 0 => ⟨[], by rw [List.append_nil]; rfl⟩
  | j + 1 => by
    obtain ⟨t, ht⟩ := fsT_pre (m := m) j
    by_cases h : ls n f g (m + j) = m + j
    · exact ⟨t ++ [m + j], by rw [show m + (j + 1) = m + j + 1 by omega, fsT_yes h, ht, List.append_assoc]⟩
    · exact ⟨t, by rw [show m + (j + 1) = m + j + 1 by omega, fsT_no h, ht]⟩
noncomputable def cl (n : Nat) (f g : Nat → Nat) (x : Nat) : Nat := (fsT n f g n).idxOf (ls n f g x)
theorem ls_mem (C : Ca n f f' g g') (hx : x < n) : ls n f g x ∈ fsT n f g n := mem_fsT.2 ⟨ls_lt C hx, ls_ls C hx⟩
theorem cl_lt (C : Ca n f f' g g') (hx : x < n) : cl n f g x < (fsT n f g n).length := List.idxOf_lt_length_of_mem (ls_mem C hx)
theorem cl_get (C : Ca n f f' g g') (hx : x < n) : (fsT n f g n)[cl n f g x]? = some (ls n f g x) := by
  unfold cl
  rw [List.getElem?_eq_getElem (List.idxOf_lt_length_of_mem (ls_mem C hx)), List.getElem_idxOf]
theorem cl_iff (C : Ca n f f' g g') (hx : x < n) (hy : y < n) : cl n f g x = cl n f g y ↔ Eo n f g x y := by
  rw [← ls_iff C hx hy]
  refine ⟨fun e => ?_, fun e => by unfold cl; rw [e]⟩
  have h1 := cl_get C hx
  have h2 := cl_get C hy
  rw [e, h2] at h1
  exact (Option.some.inj h1).symm
theorem cl_at (C : Ca n f f' g g') {i : Nat} (h : (fsT n f g n)[i]? = some x) : x < n ∧ ls n f g x = x ∧ cl n f g x = i := by
  obtain ⟨a, b⟩ := mem_fsT.1 (List.mem_of_getElem? h)
  refine ⟨a, b, ?_⟩
  have h1 := cl_get C a
  rw [b] at h1
  have e := (List.getElem?_inj (List.getElem?_eq_some_iff.1 h1).1 fsT_nodup).1 (h1.trans h.symm)
  exact e
theorem cl_new (C : Ca n f f' g g') (hx : x < n) (h : ls n f g x = x) : cl n f g x = (fsT n f g x).length := by
  obtain ⟨t, ht⟩ := fsT_pre (n := n) (f := f) (g := g) (m := x + 1) (n - (x + 1))
  rw [show x + 1 + (n - (x + 1)) = n by omega, fsT_yes h] at ht
  have hg : (fsT n f g n)[(fsT n f g x).length]? = some x := by
    rw [ht, List.append_assoc, List.getElem?_append_right (Nat.le_refl _)]; simp
  exact (cl_at C hg).2.2
end
section
variable {n : Nat} {f f' g g' : Nat → Nat}
theorem mps_at (C : Ca n f f' g g') : ∀ {k : Nat}, k ≤ n → ∀ l ∈ mps n n f g f g k, ∃ h, Au n f g h ∧ l = PL n h ∧ h 0 < k
  | 0, _, l, hl => by cases hl
  | k + 1, hk, l, hl => by
    rcases List.mem_append.1 (show l ∈ mps n n f g f g k ++ mp1 n n f g f g k from hl) with hl | hl
    · obtain ⟨h, a, b, c⟩ := mps_at C (by omega) l hl
      exact ⟨h, a, b, by omega⟩
    · unfold mp1 at hl
      split at hl
      · rename_i he
        rw [List.mem_singleton.1 hl]
        exact ⟨_, ⟨k, by omega, he.choose_spec⟩, rfl, by rw [he.choose_spec.z]; omega⟩
      · cases hl
theorem mps_all (C : Ca n f f' g g') {h : Nat → Nat} (a : Au n f g h) : PL n h ∈ mps n n f g f g n := by
  obtain ⟨s, hs, hm⟩ := a
  obtain ⟨t, ht⟩ := mps_pre (n := n) (m := n) (f := f) (g := g) (F := f) (G := g) (s := s + 1) (m' := n) (by omega)
  rw [ht]
  refine List.mem_append_left _ (List.mem_append_right _ ?_)
  rw [mp1_yes C.pf C.pg C.h0 C.cn hm]
  simp
theorem mps_pw (C : Ca n f f' g g') : ∀ {k : Nat}, k ≤ n → (mps n n f g f g k).Pairwise fun a b => (a.getD 0 0 : Int) < b.getD 0 0
  | 0, _ => List.Pairwise.nil
  | k + 1, hk => by
    show (mps n n f g f g k ++ mp1 n n f g f g k).Pairwise _
    refine List.pairwise_append.2 ⟨mps_pw C (by omega), ?_, fun a ha b hb => ?_⟩
    · unfold mp1
      split
      · exact List.pairwise_singleton _ _
      · exact List.Pairwise.nil
    · obtain ⟨h, a1, rfl, c⟩ := mps_at C (by omega) a ha
      unfold mp1 at hb
      split at hb
      · rename_i he
        rw [List.mem_singleton.1 hb, PL_getD C.h0, PL_getD C.h0, he.choose_spec.z]
        omega
      · cases hb
structure AM (n : Nat) (f g : Nat → Nat) (M : List (List Int)) : Prop where
  at' : ∀ (i : Nat) (l : List Int), M[i]? = some l → ∃ h, Au n f g h ∧ l = PL n h
  all : ∀ h, Au n f g h → ∃ i : Nat, M[i]? = some (PL n h)
  dis : ∀ (i j : Nat) (h k : Nat → Nat) (x : Nat), M[i]? = some (PL n h) → M[j]? = some (PL n k) → Au n f g h → Au n f g k → x < n → h x = k x → i = j
  len : M.length ≤ n
  pos : 0 < M.length
theorem am_of (C : Ca n f f' g g') : AM n f g (mps n n f g f g n) := by
  have hpw := mps_pw C (Nat.le_refl n)
  have key : ∀ (i j : Nat) (h k : Nat → Nat), (mps n n f g f g n)[i]? = some (PL n h) → (mps n n f g f g n)[j]? = some (PL n k) → i < j → h 0 < k 0 := fun i j h k hi hj hij => by
    obtain ⟨a1, a2⟩ := List.getElem?_eq_some_iff.1 hi
    obtain ⟨b1, b2⟩ := List.getElem?_eq_some_iff.1 hj
    have := List.pairwise_iff_getElem.1 hpw i j a1 b1 hij
    rw [a2, b2, PL_getD C.h0, PL_getD C.h0] at this
    omega
  refine ⟨fun i l hl => ?_, fun h a => ?_, fun i j h k x hi hj a b hx e => ?_, mps_len n, ?_⟩
  · obtain ⟨h, a, b, -⟩ := mps_at C (Nat.le_refl n) l (List.mem_of_getElem? hl)
    exact ⟨h, a, b⟩
  · exact List.getElem?_of_mem (mps_all C a)
  · have e0 := a.free C b hx e C.h0
    rcases Nat.lt_trichotomy i j with hij | hij | hij
    · have := key i j h k hi hj hij; omega
    · exact hij
    · have := key j i k h hj hi hij; omega
  · exact List.length_pos_of_mem (mps_all C (au_id C.h0))
end
end Go.PI
/- A NUMBERING and what is built by it: what the store holds. -/
open Go.Proofs
namespace Go.PI
open IM
set_option maxRecDepth 10000
set_option maxHeartbeats 4000000
structure Own1 (σ0 σ : List StB) (L4 L5 L6 : Nat) (w v : PV) : Prop where
  out : ∀ q, blkOf v = some q → σ0.length ≤ q ∧ q < σ.length ∧ q ≠ L4 ∧ q ≠ L5 ∧ q ≠ L6 ∧ blkOf w ≠ some q
structure ML (σ0 σ : List StB) (j m : Nat) (v0 v vr vu : PV) (L4 L5 L6 : Nat) (P4 P5 : List PV) (xs X Y : List Nat) : Prop where
  jl : j < σ0.length
  ml : m < σ0.length
  l4 : σ0.length ≤ L4
  l5 : L4 < L5
  l6 : L5 < L6
  c4 : σ[L4]? = some (.liv 24 P4)
  c5 : σ[L5]? = some (.liv 24 P5)
  c6 : σ[L6]? = some (.liv 24 [vr, vu])
  num : Num σ j m v xs
  keep : ∀ (i : Nat) (b : StB), i ≠ j → i ≠ m → blkOf v0 ≠ some i → σ0[i]? = some b → σ[i]? = some b
  len : σ0.length ≤ σ.length
  old : ∀ i, i < σ0.length → blkOf v0 ≠ some i → blkOf v ≠ some i
  b4 : blkOf v ≠ some L4
  b5 : blkOf v ≠ some L5
  b6 : blkOf v ≠ some L6
  gr : Gr pnn 3 vr σ X
  gu : Gr pnn 3 vu σ Y
  sep : ∀ q, blkOf vr = some q → blkOf vu ≠ some q
  o1 : Own1 σ0 σ L4 L5 L6 v vr
  o2 : Own1 σ0 σ L4 L5 L6 v vu
theorem ML.lt6 {σ0 σ : List StB} {j m : Nat} {v0 v vr vu : PV} {L4 L5 L6 : Nat} {P4 P5 : List PV} {xs X Y : List Nat} (h : ML σ0 σ j m v0 v vr vu L4 L5 L6 P4 P5 xs X Y) : L6 < σ.length := (List.getElem?_eq_some_iff.1 h.c6).1
theorem ML.around {σ0 σ σ2 : List StB} {j m : Nat} {v0 v v2 vr vu : PV} {L4 L5 L6 : Nat} {P4 P5 : List PV} {xs xs2 X Y : List Nat} (h : ML σ0 σ j m v0 v vr vu L4 L5 L6 P4 P5 xs X Y) (e1 : Num σ2 j m v2 xs2) (e2 : NF σ σ2 j m v v2) : ML σ0 σ2 j m v0 v2 vr vu L4 L5 L6 P4 P5 xs2 X Y := by
  have hl6 := h.lt6
  have a1 := h.jl
  have a2 := h.ml
  have a3 := h.l4
  have a4 := h.l5
  have a5 := h.l6
  have hlen := h.len
  have ow : ∀ {w : PV}, Own1 σ0 σ L4 L5 L6 v w → Own1 σ0 σ2 L4 L5 L6 v2 w := fun {w} o => ⟨fun q hq => by
    obtain ⟨b1, b2, b3, b4, b5, b6⟩ := o.out q hq
    exact ⟨b1, Nat.lt_of_lt_of_le b2 e2.len, b3, b4, b5, e2.blk q b2 b6⟩⟩
  have kg : ∀ {w : PV} {Z : List Nat}, Own1 σ0 σ L4 L5 L6 v w → Gr pnn 3 w σ Z → Gr pnn 3 w σ2 Z := fun {w Z} o g => g.keep fun i b hi hb => by
    obtain ⟨b1, b2, b3, b4, b5, b6⟩ := o.out i hi
    exact e2.keep i b (by omega) (by omega) b6 hb
  exact ⟨a1, a2, a3, a4, a5, e2.keep L4 _ (by omega) (by omega) h.b4 h.c4, e2.keep L5 _ (by omega) (by omega) h.b5 h.c5, e2.keep L6 _ (by omega) (by omega) h.b6 h.c6, e1,
    fun i b h1 h2 h3 h4 => e2.keep i b h1 h2 (h.old i (List.getElem?_eq_some_iff.1 h4).1 h3) (h.keep i b h1 h2 h3 h4), Nat.le_trans hlen e2.len,
    fun i hi h3 => e2.blk i (Nat.lt_of_lt_of_le hi hlen) (h.old i hi h3), e2.blk L4 (by omega) h.b4, e2.blk L5 (by omega) h.b5, e2.blk L6 hl6 h.b6, kg h.o1 h.gr, kg h.o2 h.gu, h.sep, ow h.o1, ow h.o2⟩
theorem ML.push {σ0 σ : List StB} {j m : Nat} {v0 v vr vu : PV} {L4 L5 L6 : Nat} {P4 P5 : List PV} {xs X Y : List Nat} {b : StB} (h : ML σ0 σ j m v0 v vr vu L4 L5 L6 P4 P5 xs X Y) : ML σ0 (σ ++ [b]) j m v0 v vr vu L4 L5 L6 P4 P5 xs X Y := by
  have ow : ∀ {w : PV}, Own1 σ0 σ L4 L5 L6 v w → Own1 σ0 (σ ++ [b]) L4 L5 L6 v w := fun {w} o => ⟨fun q hq => by
    obtain ⟨b1, b2, b3⟩ := o.out q hq
    exact ⟨b1, by rw [List.length_append]; omega, b3⟩⟩
  exact ⟨h.jl, h.ml, h.l4, h.l5, h.l6, push_old h.c4, push_old h.c5, push_old h.c6, h.num.push, fun i x h1 h2 h3 h4 => push_old (h.keep i x h1 h2 h3 h4), by rw [List.length_append]; have := h.len; omega, h.old, h.b4, h.b5, h.b6, h.gr.push, h.gu.push, h.sep, ow h.o1, ow h.o2⟩
theorem ML.with {σ0 σ σ3 : List StB} {j m : Nat} {v0 v vr vu vr' vu' : PV} {L4 L5 L6 : Nat} {P4 P5 : List PV} {xs X Y X' Y' : List Nat} (h : ML σ0 σ j m v0 v vr vu L4 L5 L6 P4 P5 xs X Y)
    (w1 : Gr pnn 3 vr' σ3 X') (w2 : Gr pnn 3 vu' σ3 Y') (w3 : ∀ q, blkOf vr' = some q → blkOf vu' ≠ some q) (w4 : σ.length ≤ σ3.length) (w5 : ∀ i bl, blkOf vr ≠ some i → blkOf vu ≠ some i → σ[i]? = some bl → σ3[i]? = some bl) (w6 : ∀ i, i < σ.length → blkOf vr' ≠ some i ∧ blkOf vu' ≠ some i) :
    ML σ0 (σ3.set L6 (.liv 24 [vr', vu'])) j m v0 v vr' vu' L4 L5 L6 P4 P5 xs X' Y' := by
  have hl6 := h.lt6
  have a1 := h.jl
  have a2 := h.ml
  have a3 := h.l4
  have a4 := h.l5
  have a5 := h.l6
  have hlen := h.len
  have hvb : ∀ q, blkOf v = some q → q < σ.length := fun q hq => h.num.gr.blk hq
  have lo : ∀ i, i < σ0.length → blkOf vr ≠ some i ∧ blkOf vu ≠ some i := fun i hi => ⟨fun e => by have := (h.o1.out i e).1; omega, fun e => by have := (h.o2.out i e).1; omega⟩
  have n4 : blkOf vr ≠ some L4 ∧ blkOf vu ≠ some L4 := ⟨fun e => (h.o1.out _ e).2.2.1 rfl, fun e => (h.o2.out _ e).2.2.1 rfl⟩
  have n5 : blkOf vr ≠ some L5 ∧ blkOf vu ≠ some L5 := ⟨fun e => (h.o1.out _ e).2.2.2.1 rfl, fun e => (h.o2.out _ e).2.2.2.1 rfl⟩
  have nv : ∀ q, blkOf v = some q → blkOf vr ≠ some q ∧ blkOf vu ≠ some q := fun q hq => ⟨fun e => (h.o1.out _ e).2.2.2.2.2 hq, fun e => (h.o2.out _ e).2.2.2.2.2 hq⟩
  have ow : ∀ {w : PV} {Z : List Nat}, Gr pnn 3 w σ3 Z → (∀ i, i < σ.length → blkOf w ≠ some i) → Own1 σ0 (σ3.set L6 (.liv 24 [vr', vu'])) L4 L5 L6 v w := fun {w Z} g hw => ⟨fun q hq => by
    have hge : ¬ q < σ.length := fun hlt => hw q hlt hq
    have := g.blk hq
    exact ⟨by omega, by rw [List.length_set]; omega, by omega, by omega, by omega, fun e => hge (hvb q e)⟩⟩
  have kg : ∀ {w : PV} {Z : List Nat}, Gr pnn 3 w σ3 Z → (∀ i, i < σ.length → blkOf w ≠ some i) → Gr pnn 3 w (σ3.set L6 (.liv 24 [vr', vu'])) Z := fun {w Z} g hw => g.keep fun i b hi hb => by
    rw [List.getElem?_set_ne (fun e => hw L6 hl6 (by rw [e]; exact hi))]; exact hb
  have w6a := fun i hi => (w6 i hi).1
  have w6b := fun i hi => (w6 i hi).2
  refine ⟨a1, a2, a3, a4, a5, ?_, ?_, List.getElem?_set_self (by omega), ?_, fun i b h1 h2 h3 h4 => ?_, by rw [List.length_set]; omega, h.old, h.b4, h.b5, h.b6, kg w1 w6a, kg w2 w6b, w3, ow w1 w6a, ow w2 w6b⟩
  · rw [List.getElem?_set_ne (by omega)]; exact w5 _ _ n4.1 n4.2 h.c4
  · rw [List.getElem?_set_ne (by omega)]; exact w5 _ _ n5.1 n5.2 h.c5
  · refine (h.num.keep fun i b hi hb => w5 i b ?_ ?_ hb).set (by omega) (by omega) h.b6
    · rcases hi with rfl | rfl | hi
      · exact (lo _ a1).1
      · exact (lo _ a2).1
      · exact (nv i hi).1
    · rcases hi with rfl | rfl | hi
      · exact (lo _ a1).2
      · exact (lo _ a2).2
      · exact (nv i hi).2
  · have hi := (List.getElem?_eq_some_iff.1 h4).1
    rw [List.getElem?_set_ne (by omega)]
    exact w5 i b (lo i hi).1 (lo i hi).2 (h.keep i b h1 h2 h3 h4)
def LS (R B : List Int) (i : Nat) (lb : Bool) : Prop := (lb = false ∧ B ≠ [] ∧ R.take i = B.take i) ∨ (lb = true ∧ (B = [] ∨ Lt R B))
theorem LS.eq {R B : List Int} {i : Nat} {a b : Int} (h : LS R B i false) (ha : R[i]? = some a) (hb : B[i]? = some b) (e : a = b) : LS R B (i + 1) false := by
  rcases h with ⟨-, h1, h2⟩ | ⟨h, -⟩
  · exact .inl ⟨rfl, h1, by rw [take_snoc ha, take_snoc hb, h2, e]⟩
  · cases h
theorem LS.lt {R B : List Int} {i : Nat} {a b : Int} (h : LS R B i false) (ha : R[i]? = some a) (hb : B[i]? = some b) (e : a < b) : LS R B (i + 1) true := by
  rcases h with ⟨-, h1, h2⟩ | ⟨h, -⟩
  · exact .inr ⟨rfl, .inr ((lt_at h2 ha hb (by omega)).2 e)⟩
  · cases h
theorem LS.tr {R B : List Int} {i : Nat} (h : LS R B i true) : LS R B (i + 1) true := by
  rcases h with ⟨h, -⟩ | h
  · cases h
  · exact .inr h
end Go.PI
/- A NUMBERING that may come first. -/
open Go.Proofs
namespace Go.PI
open IM
set_option maxRecDepth 10000
set_option maxHeartbeats 4000000
variable (S : FuncId → Option (List AV → Heap → Option (AV × Heap)))
theorem fz2 {σ : List StB} {vr vu : PV} {X Y : List Nat} (cr : Cn pnn vr σ X) (cu : Cn pnn vu σ Y) : ∃ σ2, Fz (.agg [vr, vu]) σ (pO (NL X) (NL Y)) σ2 ∧ ∀ i b, blkOf vr ≠ some i → blkOf vu ≠ some i → σ[i]? = some b → σ2[i]? = some b := by
  obtain ⟨σ1, f1, c1, l1, k1⟩ := cr.fz
  obtain ⟨σ2, f2, c2, l2, k2⟩ := (cu.same c1).fz
  rw [pIs_NL] at f1 f2
  have h1 : ∀ K : PV → List StB → Prop, K (pIs (NL X)) σ1 → frzK σ vr K := fun K hK => by
    have := f1 K hK
    rcases cr with ⟨rfl, -⟩ | ⟨j, ty, -, rfl | rfl⟩ <;> exact this
  have h2 : ∀ K : PV → List StB → Prop, K (pIs (NL Y)) σ2 → frzK σ1 vu K := fun K hK => by
    have := f2 K hK
    rcases cu with ⟨rfl, -⟩ | ⟨j, ty, -, rfl | rfl⟩ <;> exact this
  exact ⟨σ2, fun K hK => h1 (fun p σ' => frzsK σ' [vu] fun ps σ'' => K (.agg (p :: ps)) σ'') (h2 (fun p σ'' => K (.agg [pIs (NL X), p]) σ'') hK), fun i b a1 a2 hb => k2 i b a2 (k1 i b a1 hb)⟩
theorem ML.fin {σ0 σ σa : List StB} {j m : Nat} {v0 v vr vu : PV} {L4 L5 L6 : Nat} {P4 P5 : List PV} {xs X Y : List Nat} (h : ML σ0 σ j m v0 v vr vu L4 L5 L6 P4 P5 xs X Y) (ka : ∀ i b, blkOf vu ≠ some i → σ[i]? = some b → σa[i]? = some b) (cr : Cn pnn vr σa X) (cu : Cn pnn vu σa Y) :
    ∃ σ2, Fz (.agg [vr, vu]) σa (pO (NL X) (NL Y)) σ2 ∧ Num σ2 j m v xs ∧ (∀ (i : Nat) (b : StB), i ≠ j → i ≠ m → blkOf v0 ≠ some i → σ0[i]? = some b → σ2[i]? = some b) ∧ ∀ i b, σ.length ≤ i → σa[i]? = some b → σ2[i]? = some b := by
  obtain ⟨σ2, f2, k2⟩ := fz2 cr cu
  have lo : ∀ i, i < σ0.length → blkOf vr ≠ some i ∧ blkOf vu ≠ some i := fun i hi => ⟨fun e => by have := (h.o1.out i e).1; omega, fun e => by have := (h.o2.out i e).1; omega⟩
  have nv : ∀ q, blkOf v = some q → blkOf vr ≠ some q ∧ blkOf vu ≠ some q := fun q hq => ⟨fun e => (h.o1.out _ e).2.2.2.2.2 hq, fun e => (h.o2.out _ e).2.2.2.2.2 hq⟩
  refine ⟨σ2, f2, h.num.keep fun i b hi hb => ?_, fun i b h1 h2 h3 h4 => ?_, fun i b hi hb => k2 i b (fun e => by have := (h.o1.out i e).2.1; omega) (fun e => by have := (h.o2.out i e).2.1; omega) hb⟩
  · have hh : blkOf vr ≠ some i ∧ blkOf vu ≠ some i := by
      rcases hi with rfl | rfl | hi
      · exact lo _ h.jl
      · exact lo _ h.ml
      · exact nv i hi
    exact k2 i b hh.1 hh.2 (ka i b hh.2 hb)
  · have hh := lo i (List.getElem?_eq_some_iff.1 h4).1
    exact k2 i b hh.1 hh.2 (ka i b hh.2 (h.keep i b h1 h2 h3 h4))
theorem set_same {σ : List StB} {q : Nat} {x : StB} (h : σ[q]? = some x) : σ.set q x = σ := by
  apply List.ext_getElem?
  intro i
  by_cases e : q = i
  · subst e
    rw [List.getElem?_set_self (List.getElem?_eq_some_iff.1 h).1, h]
  · rw [List.getElem?_set_ne e]
end Go.PI
/- THE LABEL of the program; the law of labels. -/
open Go.Proofs
namespace Go.PI
open IM
set_option maxRecDepth 10000
set_option maxHeartbeats 4000000
variable (S : FuncId → Option (List AV → Heap → Option (AV × Heap)))
end Go.PI
/- ALL AUTOMORPHISMS, of the program: a list of what a loop yields. -/
open Go.Proofs
namespace Go.PI
open IM
set_option maxRecDepth 10000
set_option maxHeartbeats 4000000
variable (S : FuncId → Option (List AV → Heap → Option (AV × Heap)))
theorem fn139 : ctx.fn 139 = some c139 := by kernel_rfl
theorem fn122 : ctx.fn 122 = some c122 := by kernel_rfl
def Osq : Opn := ⟨fun t => Nat.beq t 28, fun t => Nat.beq t 28 || Nat.beq t 22, false⟩
section
variable {r u r2 u2 : List Int} {n m : Nat} {f f' g g' F F' G G' : Nat → Nat}
theorem appSeq_cm (hS : OldO S) (ho : IsO r u n f f' g g') (ho2 : IsO r2 u2 m F F' G G') (hcn : Conn n f g) (hn20 : n ≤ 20) {σ0 : List StB} :
    Cm (ctx.plus S) 139 [.nils, .fnc 118 [.lptr [pIs r2, pIs u2], .lptr [pIs r, pIs u]]] σ0 70000 fun w σ' => Gr pIs 22 w σ' (mps n m f g F G m) := by
  have hn := ho.le
  have hm := ho2.le
  refine cm_of Osq (hS 139 (by decide)) fn139 fun c k0 hc => ?_
  refine ⟨by omega, ?_⟩
  obtain ⟨P, hP⟩ : ∃ P, P = (σ0 ++ [StB.liv 28 PV.nils.pcells]).length := ⟨_, rfl⟩
  have hP1 : P = σ0.length + 1 := by rw [hP]; simp
  refine rng_maps S hS (d := 2) ho ho2 hcn hn20 (fun x s σ' => ∃ v, σ'[σ0.length]? = some (.liv 28 [v]) ∧ σ'[P]? = some (.lp x) ∧ Gr pIs 22 v σ' (mps n m f g F G s) ∧ (∀ j, blkOf v = some j → P < j)) (fun _ => False) (by omega) ?_ ?_ ?_ ?_
  · exact ⟨.nils, push_old push_get, push_get' hP, .nil, fun j h => by cases h⟩
  · rintro s σ' hsm hno ⟨v, g0, g1, g2, g3⟩
    refine ⟨v, g0, g1, ?_, g3⟩
    show Gr pIs 22 v σ' (mps n m f g F G s ++ mp1 n m f g F G s)
    rw [mp1_no hno, List.append_nil]; exact g2
  · rintro s h σ' hsm hM ⟨v, g0, g1, g2, g3⟩
    rw [← hP]
    have hml := mps_len (n := n) (m := m) (f := f) (g := g) (F := F) (G := G) s
    have l1 := (List.getElem?_eq_some_iff.1 g1).1
    have b0 : ∀ y, (σ'.set P y)[σ0.length]? = some (.liv 28 [v]) := fun y => by rw [List.getElem?_set_ne (by omega)]; exact g0
    have b1 : ∀ y, (σ'.set P y)[P]? = some y := fun y => List.getElem?_set_self l1
    have bg : ∀ y, Gr pIs 22 v (σ'.set P y) (mps n m f g F G s) := fun y => g2.keep fun j b hj hb => by have := g3 j hj; rw [List.getElem?_set_ne (by omega)]; exact hb
    refine cy_of Osq g1 rfl rfl fun c k hc => ?_
    refine ⟨rfl, _, g1, rfl, ?_⟩
    refine ⟨_, load_liv (b0 _) rfl rfl, ?_⟩
    refine ⟨show k < c by omega, part1 fzL ⟨[pIs (PL n h)], rfl, ?_⟩⟩
    refine appG (f := pIs) (e := 22) (y := PL n h) (bg _).push push_cont rfl rfl rfl rfl (by kernel_rfl) rfl rfl (by omega) (show k + 1 < c by omega) fun v' σ3 hv' hk3 hb3 => ?_
    have pc := hv'.cell
    have c0 := hk3 σ0.length _ (fun e => by have := g3 _ e; omega) (push_old (b0 _))
    have c1 := hk3 P _ (fun e => by have := g3 _ e; omega) (push_old (b1 _))
    have l3 := (List.getElem?_eq_some_iff.1 c1).1
    refine ⟨_, _, c0, ⟨by rw [pc.1]; rfl, Nat.le_refl 1, by rw [pc.1]; simp [pones, pc.2]⟩, _, (by rw [pc.1]; rfl : pspl [v] 0 v'.pcells = [v']), _, rfl, ?_⟩
    have hge3 : ∀ j, blkOf v' = some j → P < j := fun j hj => by have hj := Option.some.inj (hb3.symm.trans hj); simp only [List.length_append, List.length_set, List.length_singleton] at hj; omega
    refine ⟨_, (show (σ3.set σ0.length (.liv 28 [v']))[P]? = some _ by rw [List.getElem?_set_ne (by omega)]; exact c1), by dsimp only; omega, .inl ⟨rfl, v', ?_, ?_, ?_, hge3⟩⟩
    · show ((σ3.set σ0.length (.liv 28 [v'])).set P _)[σ0.length]? = _
      rw [List.getElem?_set_ne (by omega), List.getElem?_set_self (by omega)]
    · exact List.getElem?_set_self (show P < (σ3.set σ0.length (StB.liv 28 [v'])).length by rw [List.length_set]; exact l3)
    · show Gr pIs 22 v' ((σ3.set σ0.length (.liv 28 [v'])).set P _) (mps n m f g F G s ++ mp1 n m f g F G s)
      rw [mp1_yes ho.pr ho.pu ho.pos hcn hM]
      exact hv'.keep fun j b hj hb => by
        have := hge3 j hj
        rw [List.getElem?_set_ne (by omega), List.getElem?_set_ne (by omega)]; exact hb
  · rintro σ' (⟨v, g0, g1, g2, g3⟩ | hF)
    · rw [← hP]
      refine ⟨_, g1, (fun h => by cases h), ?_⟩
      have hv : Gr pIs 22 v (σ'.set P .dead) (mps n m f g F G m) := g2.keep fun j b hj hb => by have := g3 j hj; rw [List.getElem?_set_ne (by omega)]; exact hb
      refine ⟨_, load_liv (show (σ'.set P .dead)[σ0.length]? = some (.liv 28 [v]) by rw [List.getElem?_set_ne (by omega)]; exact g0) rfl rfl, ?_⟩
      exact endm [] (by dsimp only; omega) hv
    · exact hF.elim
theorem collect_ct (hS : OldO S) (ho : IsO r u n f f' g g') (ho2 : IsO r2 u2 m F F' G G') (hcn : Conn n f g) (hn20 : n ≤ 20) :
    Ct (ctx.plus S) 122 [.fnc 118 [.lptr [pIs r2, pIs u2], .lptr [pIs r, pIs u]]] 70000 fun w => w = pM (mps n m f g F G m) := by
  refine ctO_of Osq (hS 122 (by decide)) fn122 ?_
  refine callm (appSeq_cm S hS ho ho2 hcn hn20) (by omega) ?_
  intro w σ' hw
  obtain ⟨σ2, hf⟩ := hw.fz
  exact endf hf rfl
theorem fn83 : ctx.fn 83 = some c83 := by kernel_rfl
theorem autos_ct (hS : OldO S) (ho : IsO r u n f f' g g') (hcn : Conn n f g) (hn20 : n ≤ 20) : Ct (ctx.plus S) 83 [pO r u] 70010 fun w => w = pM (mps n n f g f g n) := by
  refine ct_of (hS 83 (by decide)) fn83 ?_
  refine ⟨by omega, ?_⟩
  refine ⟨_, rfl, ?_⟩
  refine ⟨_, rfl, ?_⟩
  refine callq rfl (mapsTo_ct S hS) (by omega) ?_
  rintro _ rfl
  refine callq rfl (collect_ct S hS ho ho hcn hn20) (by omega) ?_
  rintro _ rfl
  exact endq rfl rfl
theorem fn39 : ctx.fn 39 = some c39 := by kernel_rfl
theorem pautos_ok (hS : OldO S) (ho : IsO r u n f f' g g') (hcn : Conn n f g) (hn20 : n ≤ 20) : Ct (ctx.plus S) 39 [pO r u] 80000 fun v => v = .tup [pM (mps n n f g f g n), pn 0] := by
  have e : cc n f g = 0 := by unfold cc; rw [if_pos hcn]
  have h72 := checkConn_ok S hS ho
  rw [e] at h72
  refine ct_of (hS 39 (by decide)) fn39 ?_
  refine ⟨by omega, ?_⟩
  refine ⟨_, rfl, ?_⟩
  refine callq rfl (answer62_ct S hS h72 (Q := fun v => v = pM (mps n n f g f g n)) (fun v e => by rw [e]; rfl) (d := 70010) fun h0 => autos_ct S hS ho hcn hn20) (by omega) ?_
  rintro _ (⟨h0, rfl⟩ | ⟨h0, w, rfl, rfl⟩)
  · exact absurd rfl h0
  · exact endsq rfl rfl
theorem pautos_bad (hS : OldO S) {r u : List Int} {e : Int} (he : e ≠ 0) (h72 : Ct (ctx.plus S) 72 [pOs [(r, u)]] 3300 fun v => v = pn e) : Ct (ctx.plus S) 39 [pO r u] 80000 fun v => v = .tup [.lst 0 [], pn e] := by
  refine ct_of (hS 39 (by decide)) fn39 ?_
  refine ⟨by omega, ?_⟩
  refine ⟨_, rfl, ?_⟩
  refine callq rfl (answer62_ct S hS h72 (Q := fun _ => False) (fun v e => e.elim) (d := 0) fun h0 => absurd h0 he) (by omega) ?_
  rintro _ (⟨h0, rfl⟩ | ⟨h0, w, hw, rfl⟩)
  · exact endsq rfl rfl
  · exact hw.elim
end
end Go.PI
/- CLASSES OF SQUARES: how the program numbers them. -/
open Go.Proofs
namespace Go.PI
open IM
section
variable {n k : Nat} {f f' g g' : Nat → Nat} {M : List (List Int)} {D : List Int}
structure CQu (n : Nat) (f g : Nat → Nat) (M : List (List Int)) (k : Nat) (D : List Int) : Prop where
  len : D.length = n
  at' : ∀ y, y < n → D[y]? = some (if ls n f g y < k then (cl n f g y : Int) else -1)
  cnt : D.count (-1) + M.length * (fsT n f g k).length = n
structure CJu (n : Nat) (f g : Nat → Nat) (M : List (List Int)) (k j : Nat) (D : List Int) : Prop where
  len : D.length = n
  yes : ∀ y, y < n → (ls n f g y < k ∨ ∃ i h, i < j ∧ M[i]? = some (PL n h) ∧ Au n f g h ∧ h k = y) → D[y]? = some (cl n f g y : Int)
  no : ∀ y, y < n → ¬ (ls n f g y < k ∨ ∃ i h, i < j ∧ M[i]? = some (PL n h) ∧ Au n f g h ∧ h k = y) → D[y]? = some (-1)
  cnt : D.count (-1) + M.length * (fsT n f g k).length + j = n
theorem CQu.start : CQu n f g M 0 (List.replicate n (-1 : Int)) := by
  refine ⟨by simp, fun y hy => ?_, ?_⟩
  · rw [List.getElem?_replicate, if_pos hy, if_neg (by omega)]
  · rw [List.count_replicate_self]
    show n + M.length * 0 = n
    omega
theorem CQu.low (C : Ca n f f' g g') (h : CQu n f g M k D) (hk : k < n) : (D[k]? = some (-1) ↔ ls n f g k = k) ∧ ∃ d : Int, D[k]? = some d := by
  rw [h.at' k hk]
  have hle := ls_le C hk
  by_cases e : ls n f g k < k
  · rw [if_pos e]
    refine ⟨⟨fun h => ?_, fun h => by omega⟩, _, rfl⟩
    have := Option.some.inj h
    omega
  · rw [if_neg e]
    exact ⟨⟨fun _ => by omega, fun _ => rfl⟩, _, rfl⟩
theorem CQu.skip (C : Ca n f f' g g') (h : CQu n f g M k D) (hk : k < n) (hl : ¬ ls n f g k = k) : CQu n f g M (k + 1) D := by
  refine ⟨h.len, fun y hy => ?_, by rw [fsT_no hl]; exact h.cnt⟩
  rw [h.at' y hy]
  have : ls n f g y ≠ k := fun e => hl (by rw [← e]; exact ls_ls C hy)
  by_cases e : ls n f g y < k
  · rw [if_pos e, if_pos (by omega)]
  · rw [if_neg e, if_neg (by omega)]
theorem CQu.to (h : CQu n f g M k D) : CJu n f g M k 0 D := by
  refine ⟨h.len, fun y hy hc => ?_, fun y hy hc => ?_, by have := h.cnt; omega⟩
  · rcases hc with hc | ⟨i, h', hi, -⟩
    · rw [h.at' y hy, if_pos hc]
    · omega
  · rw [h.at' y hy, if_neg (fun e => hc (.inl e))]
theorem CJu.next (C : Ca n f f' g g') (A : AM n f g M) (hk : k < n) (hl : ls n f g k = k) {j : Nat} (h : CJu n f g M k j D) {a : Nat → Nat} (ha : M[j]? = some (PL n a)) (hA : Au n f g a) : CJu n f g M k (j + 1) (D.set (a k) ((fsT n f g k).length : Int)) := by
  have han := hA.lt hk
  have hcl : cl n f g (a k) = (fsT n f g k).length := by rw [← cl_new C hk hl]; exact ((cl_iff C hk han).2 ⟨a, hA, rfl⟩).symm
  have hls : ls n f g (a k) = k := by rw [← ls_eq C hk ⟨a, hA, rfl⟩]; exact hl
  have hold : D[a k]? = some (-1) := h.no _ han fun hc => by
    rcases hc with hc | ⟨i, b, hi, hb, hB, e⟩
    · omega
    · have := A.dis i j b a k hb ha hB hA hk e
      omega
  have hal := (List.getElem?_eq_some_iff.1 hold).1
  refine ⟨by rw [List.length_set]; exact h.len, fun y hy hc => ?_, fun y hy hc => ?_, ?_⟩
  · by_cases e : a k = y
    · subst e
      rw [List.getElem?_set_self hal, hcl]
    · rw [List.getElem?_set_ne e]
      refine h.yes y hy ?_
      rcases hc with hc | ⟨i, b, hi, hb, hB, e2⟩
      · exact .inl hc
      · by_cases e3 : i = j
        · subst e3
          have e4 : PL n a = PL n b := Option.some.inj (ha.symm.trans hb)
          have : a k = b k := by
            have h1 := PL_get (f := a) hk
            rw [e4, PL_get hk] at h1
            have := Option.some.inj h1
            omega
          exact absurd (this.trans e2) e
        · exact .inr ⟨i, b, by omega, hb, hB, e2⟩
  · have e : a k ≠ y := fun e => hc (.inr ⟨j, a, by omega, ha, hA, e⟩)
    rw [List.getElem?_set_ne e]
    refine h.no y hy fun hd => hc ?_
    rcases hd with hd | ⟨i, b, hi, hb⟩
    · exact .inl hd
    · exact .inr ⟨i, b, by omega, hb⟩
  · have := cnt_set hold (a := ((fsT n f g k).length : Int)) (by omega)
    have := h.cnt
    omega
theorem CJu.fin (C : Ca n f f' g g') (A : AM n f g M) (hk : k < n) (hl : ls n f g k = k) (h : CJu n f g M k M.length D) : CQu n f g M (k + 1) D := by
  refine ⟨h.len, fun y hy => ?_, ?_⟩
  · by_cases e : ls n f g y < k + 1
    · rw [if_pos e]
      refine h.yes y hy ?_
      by_cases e2 : ls n f g y < k
      · exact .inl e2
      · obtain ⟨a, hA, e3⟩ := (ls_iff C hk hy).1 (by omega : ls n f g k = ls n f g y)
        obtain ⟨i, hi⟩ := A.all a hA
        exact .inr ⟨i, a, (List.getElem?_eq_some_iff.1 hi).1, hi, hA, e3⟩
    · rw [if_neg e]
      refine h.no y hy fun hc => ?_
      rcases hc with hc | ⟨i, a, hi, ha, hA, e3⟩
      · omega
      · have := ls_eq C hk ⟨a, hA, e3⟩
        omega
  · rw [fsT_yes hl, List.length_append, List.length_singleton, Nat.mul_add, Nat.mul_one]
    have := h.cnt
    omega
theorem CQu.fin (C : Ca n f f' g g') (h : CQu n f g M n D) : D = PL n (cl n f g) ∧ M.length * (fsT n f g n).length = n := by
  have hat : ∀ y, y < n → D[y]? = some (cl n f g y : Int) := fun y hy => by
    rw [h.at' y hy, if_pos (ls_lt C hy)]
  have hD : D = PL n (cl n f g) := by
    apply List.ext_getElem?
    intro y
    by_cases hy : y < n
    · rw [hat y hy, PL_get hy]
    · rw [List.getElem?_eq_none (by rw [h.len]; omega), List.getElem?_eq_none (by rw [PL_len]; omega)]
  refine ⟨hD, ?_⟩
  have h0 : D.count (-1) = 0 := by
    rw [List.count_eq_zero]
    intro hm
    obtain ⟨y, hy⟩ := List.getElem?_of_mem hm
    have hyn := (List.getElem?_eq_some_iff.1 hy).1
    rw [h.len] at hyn
    rw [hat y hyn] at hy
    have := Option.some.inj hy
    omega
  have := h.cnt
  omega
end
end Go.PI
