/- Own work of the verifier: HoM HoH HoI. -/
import Derived.Test.YtfebkjgioddgaaaHpAY
set_option linter.all false
set_option exponentiation.threshold 3000
set_option linter.deprecated false
/- NUMBERS OF VERTICES; lists given by functions; cells of several values each; sums. -/
open Go.Proofs
namespace Go.PI
open IM
set_option maxRecDepth 10000
set_option maxHeartbeats 4000000
/-! ### Lists given by functions -/
def FL (n : Nat) (h : Nat → Int) : List Int := (List.range n).map h
theorem FL_len {n : Nat} {h : Nat → Int} : (FL n h).length = n := by simp [FL]
theorem FL_get {n : Nat} {h : Nat → Int} {i : Nat} (hi : i < n) : (FL n h)[i]? = some (h i) := by simp [FL, hi]
theorem FL_eq {n : Nat} {h h' : Nat → Int} (e : ∀ i, i < n → h i = h' i) : FL n h = FL n h' := List.map_congr_left fun i hi => e i (List.mem_range.1 hi)
theorem FL_PL {n : Nat} {f : Nat → Nat} : PL n f = FL n fun i => (f i : Int) := rfl
theorem FL_zero {n : Nat} : List.replicate n (0 : Int) = FL n fun _ => 0 := by
  unfold FL
  rw [List.map_const', List.length_range]
theorem FL_rep {n : Nat} : (List.replicate n [pn 0]).flatten = (FL n fun _ => 0).map pn := by rw [int_zero, FL_zero]
theorem FL_set {n : Nat} {h : Nat → Int} {i : Nat} {y : Int} : (FL n h).set i y = FL n fun j => if j = i then y else h j := by
  refine List.ext_getElem? fun j => ?_
  by_cases hj : j < n
  · rw [FL_get hj]
    by_cases e : j = i
    · subst e
      rw [List.getElem?_set_self (by rw [FL_len]; exact hj), if_pos rfl]
    · rw [List.getElem?_set_ne (Ne.symm e), FL_get hj, if_neg e]
  · rw [List.getElem?_eq_none (by simp [FL]; omega), List.getElem?_eq_none (by simp [FL]; omega)]
theorem FL_put {n : Nat} {h : Nat → Int} {o i : Nat} {y : Int} (ho : o = i) (hi : i < n) : pspl ((FL n h).map pn) o [pn y] = (FL n fun j => if j = i then y else h j).map pn := by
  rw [int_put ho (by rw [FL_len]; exact hi), FL_set]
theorem FL_of {n : Nat} {xs : List Int} (hl : xs.length = n) : xs = FL n fun i => xs.getD i 0 := by
  refine List.ext_getElem? fun j => ?_
  by_cases hj : j < n
  · rw [FL_get hj, List.getD_eq_getElem?_getD, List.getElem?_eq_getElem (by omega)]; rfl
  · rw [List.getElem?_eq_none (by omega), List.getElem?_eq_none (by simp [FL]; omega)]
theorem FL_inj {n : Nat} {h h' : Nat → Int} : FL n h = FL n h' ↔ ∀ i, i < n → h i = h' i := by
  refine ⟨fun e i hi => ?_, FL_eq⟩
  have := FL_get (h := h) hi
  rw [e, FL_get hi] at this
  exact (Option.some.inj this).symm
/-! ### Cells of several values each -/
def FC (F : Nat → List PV) (m : Nat) : List PV := (List.range m).flatMap F
theorem fm_len {F : Nat → List PV} {s : Nat} (hF : ∀ i, (F i).length = s) : ∀ L : List Nat, (L.flatMap F).length = s * L.length
  | [] => by simp
  | x :: L => by
    rw [List.flatMap_cons, List.length_append, fm_len hF L, hF, List.length_cons, Nat.mul_succ]; omega
theorem FC_len {F : Nat → List PV} {s m : Nat} (hF : ∀ i, (F i).length = s) : (FC F m).length = s * m := by
  unfold FC; rw [fm_len hF, List.length_range]
theorem range_mid {m i : Nat} (hi : i < m) : List.range m = List.range i ++ i :: (List.range (m - i - 1)).map (i + 1 + ·) := by
  rw [show m = i + 1 + (m - i - 1) by omega, List.range_add, List.range_succ, List.append_assoc]
  congr 2
  rw [List.singleton_append, show i + 1 + (m - i - 1) - i - 1 = m - i - 1 by omega]
theorem FC_at {F : Nat → List PV} {s m i q : Nat} (hF : ∀ i, (F i).length = s) (hi : i < m) (hq : q = s * i) : ((FC F m).drop q).take s = F i := by
  subst hq
  unfold FC
  rw [range_mid hi, List.flatMap_append, List.flatMap_cons]
  have h1 : ((List.range i).flatMap F).length = s * i := by rw [fm_len hF, List.length_range]
  rw [List.drop_append, h1, Nat.sub_self, List.drop_of_length_le (by omega), List.drop_zero, List.nil_append]
  rw [List.take_append_of_le_length (by rw [hF]; omega), List.take_of_length_le (by rw [hF]; omega)]
theorem fm_upd {F : Nat → List PV} {i : Nat} {G : List PV} {L : List Nat} (h : i ∉ L) : L.flatMap (fun j => if j = i then G else F j) = L.flatMap F := by
  induction L with
  | nil => rfl
  | cons x L ih =>
    rw [List.flatMap_cons, List.flatMap_cons, ih (fun hm => h (by simp [hm])), if_neg (fun e => h (by simp [e]))]
theorem FC_put {F : Nat → List PV} {s m i q : Nat} {G : List PV} (hF : ∀ i, (F i).length = s) (hG : G.length = s) (hi : i < m) (hq : q = s * i) : pspl (FC F m) q G = FC (fun j => if j = i then G else F j) m := by
  subst hq
  unfold FC pspl
  have h1 : ((List.range i).flatMap F).length = s * i := by rw [fm_len hF, List.length_range]
  rw [range_mid hi, List.flatMap_append, List.flatMap_cons, List.flatMap_append, List.flatMap_cons, if_pos rfl]
  rw [fm_upd (by simp), fm_upd (by simp only [List.mem_map, List.mem_range, not_exists, not_and]; intro x _; omega)]
  rw [List.take_append_of_le_length (by omega), List.take_of_length_le (by omega), List.drop_append, h1, List.drop_of_length_le (by omega), List.nil_append]
  rw [show s * i + G.length - s * i = (F i).length by rw [hG, hF]; omega, List.drop_append, Nat.sub_self, List.drop_of_length_le (Nat.le_refl _), List.drop_zero, List.nil_append, List.append_assoc]
theorem FC_eq {F F' : Nat → List PV} {m : Nat} (e : ∀ i, i < m → F i = F' i) : FC F m = FC F' m := by
  have key : ∀ L : List Nat, (∀ i ∈ L, F i = F' i) → L.flatMap F = L.flatMap F' := fun L => by
    induction L with
    | nil => exact fun _ => rfl
    | cons x L ih => exact fun h => by rw [List.flatMap_cons, List.flatMap_cons, h x (by simp), ih fun i hi => h i (by simp [hi])]
  exact key _ fun i hi => e i (List.mem_range.1 hi)
/-! ### Sums -/
def sumN (h : Nat → Int) : Nat → Int
  | 0 => 0
  | k + 1 => sumN h k + h k
theorem sumN_add (h : Nat → Int) (m : Nat) : ∀ k, sumN h (m + k) = sumN h m + sumN (fun i => h (m + i)) k
  | 0 => by simp [sumN]
  | k + 1 => by
    show sumN h (m + k) + h (m + k) = sumN h m + (sumN (fun i => h (m + i)) k + h (m + k))
    rw [sumN_add h m k]; omega
theorem sumN_eq {h h' : Nat → Int} : ∀ {k : Nat}, (∀ i, i < k → h i = h' i) → sumN h k = sumN h' k
  | 0, _ => rfl
  | k + 1, e => by
    show sumN h k + h k = sumN h' k + h' k
    rw [sumN_eq fun i hi => e i (by omega), e k (by omega)]
theorem sumN_plus {h h' : Nat → Int} : ∀ k, sumN (fun i => h i + h' i) k = sumN h k + sumN h' k
  | 0 => rfl
  | k + 1 => by
    show sumN (fun i => h i + h' i) k + (h k + h' k) = sumN h k + h k + (sumN h' k + h' k)
    rw [sumN_plus k]; omega
theorem sumN_le {h : Nat → Int} {b : Int} : ∀ {k : Nat}, (∀ i, i < k → -b ≤ h i ∧ h i ≤ b) → -(k * b) ≤ sumN h k ∧ sumN h k ≤ k * b
  | 0, _ => by simp [sumN]
  | k + 1, e => by
    have h1 := sumN_le (h := h) (b := b) (k := k) fun i hi => e i (by omega)
    have h2 := e k (by omega)
    have h3 : ((k + 1 : Nat) : Int) * b = k * b + b := by rw [Int.natCast_succ, Int.add_mul, Int.one_mul]
    rw [h3]
    show -(k * b + b) ≤ sumN h k + h k ∧ sumN h k + h k ≤ _
    omega
/-! ### Numbers of vertices -/
section
variable {n : Nat} {c c' : Nat → Nat}
theorem lead_of (h : IsP n c c') {x : Nat} (hx : x < n) : ∃ m, m ≤ x ∧ lead c m ∧ InC c m x := by
  obtain ⟨m, h1, h2⟩ := ex_least (P := fun y => InC c x y) ⟨x, InC.refl _ _⟩
  refine ⟨m, Nat.le_of_not_lt fun hlt => h2 x hlt (InC.refl _ _), fun y hy => ?_, h1.symm h hx⟩
  exact Nat.le_of_not_lt fun hlt => h2 y hlt (h1.trans hy)
theorem lead_one (h : IsP n c c') {x m m' : Nat} (hm : m < n) (hm' : m' < n) (l : lead c m) (l' : lead c m') (i : InC c m x) (i' : InC c m' x) : m = m' := by
  have h1 := l m' (i.trans (i'.symm h hm'))
  have h2 := l' m (i'.trans (i.symm h hm))
  omega
open Classical in
/-- the number of a vertex -/
noncomputable def vn (c : Nat → Nat) (x : Nat) : Nat := if h : ∃ m, m ≤ x ∧ lead c m ∧ InC c m x then (cycs h.choose c).length else 0
theorem vn_eq (h : IsP n c c') {x m : Nat} (hx : x < n) (hm : m < n) (l : lead c m) (i : InC c m x) : vn c x = (cycs m c).length := by
  have he := lead_of h hx
  have hs := he.choose_spec
  unfold vn
  rw [dif_pos he, lead_one h hm (by omega) l hs.2.1 i hs.2.2]
theorem cycs_lt {m : Nat} (l : lead c m) : ∀ {n : Nat}, m < n → (cycs m c).length < (cycs n c).length
  | 0, h => by omega
  | n + 1, h => by
    by_cases e : m = n
    · subst e; rw [cycs_yes l]; simp
    · have := cycs_lt l (n := n) (by omega)
      by_cases l2 : lead c n
      · rw [cycs_yes l2]; simp; omega
      · rw [cycs_no l2]; exact this
theorem cycs_mono {m : Nat} : ∀ {n : Nat}, m ≤ n → (cycs m c).length ≤ (cycs n c).length
  | 0, h => by have : m = 0 := by omega
               subst this; exact Nat.le_refl _
  | n + 1, h => by
    by_cases e : m = n + 1
    · subst e; exact Nat.le_refl _
    · have := cycs_mono (m := m) (n := n) (by omega)
      by_cases l2 : lead c n
      · rw [cycs_yes l2]; simp; omega
      · rw [cycs_no l2]; exact this
theorem cycs_num {v : Nat} {l : List Int} : ∀ {n : Nat}, (cycs n c)[v]? = some l → ∃ m, m < n ∧ lead c m ∧ l = cyc c m ∧ (cycs m c).length = v
  | 0, h => by simp [cycs] at h
  | n + 1, h => by
    by_cases l2 : lead c n
    · rw [cycs_yes l2] at h
      rcases Nat.lt_or_ge v (cycs n c).length with hv | hv
      · rw [List.getElem?_append_left hv] at h
        obtain ⟨m, h1, h2⟩ := cycs_num h
        exact ⟨m, by omega, h2⟩
      · have hve : v = (cycs n c).length := by
          have := (List.getElem?_eq_some_iff.1 h).1
          simp at this; omega
        subst hve
        rw [List.getElem?_append_right (Nat.le_refl _), Nat.sub_self] at h
        simp at h
        exact ⟨n, by omega, l2, h.symm, rfl⟩
    · rw [cycs_no l2] at h
      obtain ⟨m, h1, h2⟩ := cycs_num h
      exact ⟨m, by omega, h2⟩
theorem vn_lt (h : IsP n c c') {x : Nat} (hx : x < n) : vn c x < (cycs n c).length := by
  obtain ⟨m, h1, h2, h3⟩ := lead_of h hx
  rw [vn_eq h hx (by omega) h2 h3]
  exact cycs_lt h2 (by omega)
/-- the numbers of the vertices of which the first v are known -/
def VN (n : Nat) (c : Nat → Nat) (v : Nat) (ys : List Int) : Prop := ys.length = n ∧ ∀ x, x < n → vn c x < v → ys[x]? = some (vn c x : Int)
theorem VN_end (h : IsP n c c') {ys : List Int} (hv : VN n c (cycs n c).length ys) : ys = PL n (vn c) := PL_ext hv.1 fun x hx => hv.2 x hx (vn_lt h hx)
/-- the first j of cycle m have their number -/
def VNto (n : Nat) (c : Nat → Nat) (m j : Nat) (ys : List Int) : Prop := VN n c (cycs m c).length ys ∧ ∀ i, i < j → ys[it c i m]? = some ((cycs m c).length : Int)
theorem VNto_zero {m : Nat} {ys : List Int} (h : VN n c (cycs m c).length ys) : VNto n c m 0 ys := ⟨h, fun i hi => by omega⟩
theorem VNto_next (h : IsP n c c') {m j : Nat} (hm : m < n) (l : lead c m) {ys : List Int} (hv : VNto n c m j ys) : VNto n c m (j + 1) (ys.set (it c j m) ((cycs m c).length : Int)) := by
  have hlt := it_lt h hm j
  obtain ⟨⟨h1, h2⟩, h3⟩ := hv
  refine ⟨⟨by rw [List.length_set]; exact h1, fun x hx hxv => ?_⟩, fun i hi => ?_⟩
  · have : vn c (it c j m) = (cycs m c).length := vn_eq h hlt hm l ⟨j, rfl⟩
    rw [List.getElem?_set_ne (fun e => by rw [← e, this] at hxv; omega)]
    exact h2 x hx hxv
  · by_cases e : it c i m = it c j m
    · rw [e, List.getElem?_set_self (by omega)]
    · rw [List.getElem?_set_ne (Ne.symm e)]
      exact h3 i (by rcases Nat.lt_or_ge i j with a | a
                     · exact a
                     · exact absurd (by rw [show i = j by omega]) e)
theorem VNto_end (h : IsP n c c') {m : Nat} (hm : m < n) (l : lead c m) {ys : List Int} (hv : VNto n c m (ordr c m) ys) : VN n c ((cycs m c).length + 1) ys := by
  obtain ⟨⟨h1, h2⟩, h3⟩ := hv
  refine ⟨h1, fun x hx hxv => ?_⟩
  by_cases e : vn c x < (cycs m c).length
  · exact h2 x hx e
  · obtain ⟨m', g1, g2, g3⟩ := lead_of h hx
    have hq := vn_eq h hx (by omega) g2 g3
    have hmm : m' = m := by
      rcases Nat.lt_trichotomy m' m with a | a | a
      · have := cycs_lt g2 a; omega
      · exact a
      · have := cycs_lt l a; omega
    subst hmm
    have : (x : Int) ∈ cyc c m' := (mem_cyc h hm).2 ⟨x, rfl, g3⟩
    obtain ⟨i, hi, he⟩ := List.mem_map.1 this
    have := h3 i (List.mem_range.1 hi)
    rw [show it c i m' = x by omega] at this
    rw [this, hq]
end
end Go.PI
/- CHAINS AND MESHES of the program. -/
open Go.Proofs
namespace Go.PI
open IM
set_option maxRecDepth 10000
set_option maxHeartbeats 4000000
variable (S : FuncId → Option (List AV → Heap → Option (AV × Heap)))
theorem Cb.lp {C : Ctx} {g : FuncId} {cs ps : List PV} {c : Nat} {Q : PV → Prop} (h : Cb C g (.bptr cs :: ps) c Q) : Ct C g (.lptr cs :: ps) c Q := by
  intro H W avs hw ha hn
  cases ha with
  | cons h1 h2 =>
    cases h1 with
    | lptr a b c d => exact h H W _ hw (.cons (.bptr (fun i h => by simp at h) b c d) (RelVs.clo h2)) hn
theorem lend_l {cs : List PV} {σ : List StB} : ∀ K : PV → List StB → Prop, K (.bptr cs) σ → lendK σ (.lptr cs) K := fun K hK => hK
theorem fn108 : ctx.fn 108 = some c108 := by kernel_rfl
theorem over_ct (hS : OldO S) {x L : Int} (hL : 0 ≤ L ∧ L ≤ 1000000) : Ct (ctx.plus S) 108 [pn x, .lptr [pn L]] 0 fun r => r = .bool (!decide (-L ≤ x ∧ x ≤ L)) := by
  refine ct_of (hS 108 (by decide)) fn108 ?_
  refine ⟨_, rfl, ?_⟩
  refine ⟨⟨by omega, by omega⟩, ?_⟩
  refine ⟨fun h1 => ?_, fun h1 => ?_⟩
  · exact endq rfl (by rw [decide_eq_false (by omega)]; rfl)
  · refine ⟨_, rfl, ?_⟩
    refine ⟨fun h2 => ?_, fun h2 => ?_⟩
    · exact endq rfl (by rw [decide_eq_false (by omega)]; rfl)
    · exact endq rfl (by rw [decide_eq_true (by omega)]; rfl)
/-- all from -L to L -/
def Wi (xs : List Int) (L : Int) : Prop := ∀ x ∈ xs, -L ≤ x ∧ x ≤ L
theorem fn72 : ctx.fn 72 = some c72 := by kernel_rfl
theorem areWithin_ct (hS : OldO S) {xs : List Int} {L : Int} (hl : xs.length ≤ 1000000) (hL : 0 ≤ L ∧ L ≤ 1000000) : Ct (ctx.plus S) 72 [pIs xs, pn L] 1 fun r => (Wi xs L ∧ r = .bool true) ∨ (¬ Wi xs L ∧ r = .bool false) := by
  refine ct_of (hS 72 (by decide)) fn72 ?_
  refine ⟨by omega, ?_⟩
  refine cal2 (fzL) (fz_fnc1 rfl) (containsFunc_ct S hS (d := 0) (P := fun x => !decide (-L ≤ x ∧ x ≤ L)) rfl hl fun x _ => over_ct S hS hL) (by omega) ?_
  rintro _ (⟨⟨x, hx, hp⟩, rfl⟩ | ⟨hall, rfl⟩)
  · exact endq rfl (.inr ⟨fun h => by have := h x hx; simp [this] at hp, rfl⟩)
  · exact endq rfl (.inl ⟨fun x hx => by have := hall x hx; simpa using this, rfl⟩)
theorem fn51 : ctx.fn 51 = some c51 := by kernel_rfl
/-- the cells of a tiling: vertices, faces, edges; neighbours; corners -/
def til (V : Nat) (e : PV) (n : Nat) (r u l d : List Int) (cc : List (List Int)) : List PV := [pn V, pn n, e, pIs r, pIs u, pIs l, pIs d, pM cc]
theorem squares_cb (hS : OldO S) {v0 v1 e : PV} {r u l d : List Int} {cc : List (List Int)} : Cb (ctx.plus S) 51 [.bptr [v0, v1, e, pIs r, pIs u, pIs l, pIs d, pM cc]] 0 fun w => w = pn r.length := by
  refine cb_of (hS 51 (by decide)) fn51 ?_
  refine ⟨Nat.le_of_ble_eq_true rfl, ?_⟩
  refine ⟨_, rfl, ?_⟩
  exact endq rfl rfl
theorem fn97 : ctx.fn 97 = some c97 := by kernel_rfl
theorem side_cb (hS : OldO S) {v0 v1 e : PV} {r u l d : List Int} {cc : List (List Int)} {i : Int} (hr : r.length ≤ 1000000) (hi : -1000000 ≤ i ∧ i ≤ 1000000) : Cb (ctx.plus S) 97 [.bptr [v0, v1, e, pIs r, pIs u, pIs l, pIs d, pM cc], pn i] 0 fun w => w = pn (r.length + i) := by
  refine cb_of (hS 97 (by decide)) fn97 ?_
  refine calb lend_b rfl (by simp) (squares_cb S hS) (by omega) ?_
  rintro _ rfl
  refine ⟨⟨by omega, by omega⟩, ?_⟩
  exact endq rfl rfl
theorem fn86 : ctx.fn 86 = some c86 := by kernel_rfl
theorem hinverse_ct (hS : OldO S) {n : Nat} {f g : Nat → Nat} (h : IsP n f g) (hn : n ≤ 1000000) : Ct (ctx.plus S) 86 [pIs (PL n f)] 1 fun r => r = pIs (PL n g) := by
  obtain ⟨xs, hx⟩ : ∃ xs, xs = PL n f := ⟨_, rfl⟩
  have hl : xs.length = n := by rw [hx, PL_len]
  have hg : ∀ i, i < n → xs[i]? = some (f i : Int) := fun i hi => by rw [hx, PL_get hi]
  rw [← hx]
  clear hx
  refine ct_of (hS 86 (by decide)) fn86 ?_
  refine ⟨by omega, ⟨by omega, by omega, by omega⟩, _, int_zero, ?_⟩
  refine ⟨fun m s => ∃ (i : Nat) (ys : List Int) (T : List PV), s = ⟨T, [.live 3 (ys.map pn)], 1⟩ ∧ Gt T 22 [(3, .own 0 0 xs.length xs.length 1), (9, pIs xs), (10, pn xs.length), (11, pn i)] ∧ m = n - i ∧ i ≤ n ∧ Hid (ys.length = n ∧ ∀ j : Nat, j < i → ys[f j]? = some (j : Int)), ⟨_, ci ⟨0, _, _, rfl, ⟨rfl, rfl, rfl, rfl, rfl, trivial⟩, rfl, Nat.zero_le _, ⟨by simp [hl], fun j hj => by omega⟩⟩⟩, ?_⟩
  rintro _ s ⟨i, ys, T, rfl, hT, rfl, hi, hy⟩
  obtain ⟨J, rfl⟩ := gt_open hT
  clear hT
  refine ⟨fun hlt => ?_, fun hge => ?_⟩
  · have he := hg i (by omega)
    have hfi := h.lt i (by omega)
    have hyl := hy.h.1
    refine ⟨⟨⟨by omega, by omega⟩, len_map_le (by omega)⟩, ?_⟩
    refine ⟨_, ld (at_map he) (by show _ * 1 = i; omega), ?_⟩
    refine ⟨⟨by omega, by omega⟩, ?_⟩
    refine ⟨_, _, rfl, ⟨rfl, by rw [List.length_map]; show 0 + f i * 1 + 1 ≤ _; omega, rfl⟩, _, int_put (j := f i) (by show 0 + f i * 1 = f i; omega) (by omega), _, rfl, ?_⟩
    refine ⟨⟨by omega, by omega⟩, ?_⟩
    refine ⟨_, by omega, ci ⟨i + 1, _, _, rfl, ⟨rfl, rfl, rfl, rfl, rfl, trivial⟩, rfl, by omega, ⟨by simp [hyl], fun j hj => ?_⟩⟩⟩
    by_cases hji : j = i
    · subst hji
      rw [List.getElem?_set_self (by omega)]
    · rw [List.getElem?_set_ne (fun e => hji (h.inj (by omega) (by omega) e.symm))]
      exact hy.h.2 j (by omega)
  · refine endf (fz_ints (xs := ys) rfl (by rw [hy.h.1, hl])) ?_
    rw [PL_ext (f := g) hy.h.1 fun j hj => ?_]
    have := hy.h.2 (g j) (by have := h.glt j hj; omega)
    rwa [h.fg j hj] at this
theorem fn43 : ctx.fn 43 = some c43 := by kernel_rfl
theorem vertexNumbers_cb (hS : OldO S) {n : Nat} {c c' : Nat → Nat} (hc : IsP n c c') (hn : n ≤ 60) {v0 v1 e : PV} {r u l d : List Int} (hr : r.length = n) : Cb (ctx.plus S) 43 [.bptr [v0, v1, e, pIs r, pIs u, pIs l, pIs d, pM (cycs n c)]] 1 fun w => w = pIs (PL n (vn c)) := by
  obtain ⟨C, hC⟩ : ∃ C, C = cycs n c := ⟨_, rfl⟩
  have hcl : C.length ≤ n := by rw [hC]; exact cycs_len (Nat.le_refl n)
  have hce : ∀ l ∈ C, l.length ≤ n := fun l hl => by rw [hC] at hl; exact cycs_mem hc l hl
  have hnum := fun (v : Nat) (l : List Int) (h : C[v]? = some l) => cycs_num (n := n) (c := c) (by rw [← hC]; exact h)
  have hend : ∀ ys, VN n c C.length ys → ys = PL n (vn c) := fun ys h => VN_end hc (by rw [← hC]; exact h)
  rw [← hC]
  clear hC
  refine cb_of (hS 43 (by decide)) fn43 ?_
  refine calb lend_b rfl (by simp) (squares_cb S hS) (by omega) ?_
  rintro _ rfl
  refine ⟨by omega, ⟨by omega, by omega, by omega⟩, _, int_zero, ?_⟩
  refine ⟨Nat.le_of_ble_eq_true rfl, ?_⟩
  refine ⟨_, rfl, ?_⟩
  refine ⟨fun m s => ∃ (v : Nat) (ys : List Int) (T : List PV), s = ⟨T, [.live 3 (ys.map pn)], 1⟩ ∧ Gt T 34 [(3, .own 0 0 r.length r.length 1), (14, pM C), (15, pn C.length), (16, pn v)] ∧ m = C.length - v ∧ v ≤ C.length ∧ Hid (VN n c v ys), ⟨_, ci ⟨0, _, _, rfl, ⟨rfl, rfl, rfl, rfl, rfl, trivial⟩, rfl, Nat.zero_le _, ⟨by simp [hr], fun x hx h => by omega⟩⟩⟩, ?_⟩
  rintro _ s ⟨v, ys, T, rfl, hT, rfl, hv, hy⟩
  obtain ⟨J, rfl⟩ := gt_open hT
  clear hT
  refine ⟨fun hlt => ?_, fun hge => ?_⟩
  · obtain ⟨l, hl⟩ : ∃ l, C[v]? = some l := ⟨C[v]'(by omega), List.getElem?_eq_getElem _⟩
    obtain ⟨m, hm, hlead, rfl, hmv⟩ := hnum v l hl
    have hll := hce _ (List.mem_of_getElem? hl)
    have hcy : (cyc c m).length = ordr c m := cyc_len
    refine ⟨⟨⟨by omega, by omega⟩, len_map_le (by omega)⟩, ?_⟩
    refine ⟨_, ld (at_map hl) (by show _ * 1 = v; omega), ?_⟩
    refine ⟨fun q s => ∃ (j : Nat) (ys : List Int) (T : List PV), s = ⟨T, [.live 3 (ys.map pn)], 1⟩ ∧ Gt T 34 [(3, .own 0 0 r.length r.length 1), (4, pn v), (14, pM C), (15, pn C.length), (16, pn v), (21, pIs (cyc c m)), (22, pn (cyc c m).length), (23, pn j)] ∧ q = (cyc c m).length - j ∧ j ≤ (cyc c m).length ∧ Hid (VNto n c m j ys), ⟨_, ci ⟨0, _, _, rfl, ⟨rfl, rfl, rfl, rfl, rfl, rfl, rfl, rfl, rfl, trivial⟩, rfl, Nat.zero_le _, ⟨VNto_zero (hmv ▸ hy.h)⟩⟩⟩, ?_⟩
    rintro _ s ⟨j, ys, T, rfl, hT, rfl, hj, hy⟩
    obtain ⟨J, rfl⟩ := gt_open hT
    clear hT
    refine ⟨fun hlt2 => ?_, fun hge2 => ?_⟩
    · have hit := it_lt hc hm j
      have hyl : ys.length = n := hy.h.1.1
      refine ⟨⟨⟨by omega, by omega⟩, len_map_le (by omega)⟩, ?_⟩
      refine ⟨_, ld (at_map (cyc_at (show j < ordr c m by omega))) (by show _ * 1 = j; omega), ?_⟩
      refine ⟨⟨by omega, by omega⟩, ?_⟩
      refine ⟨_, _, rfl, ⟨rfl, by rw [List.length_map]; show 0 + it c j m * 1 + 1 ≤ _; omega, rfl⟩, _, int_put (j := it c j m) (by show 0 + it c j m * 1 = it c j m; omega) (by omega), _, rfl, ?_⟩
      refine ⟨⟨by omega, by omega⟩, ?_⟩
      exact ⟨_, by omega, ci ⟨j + 1, _, _, rfl, ⟨rfl, rfl, rfl, rfl, rfl, rfl, rfl, rfl, rfl, trivial⟩, rfl, by omega, ⟨hmv ▸ VNto_next hc hm hlead hy.h⟩⟩⟩
    · refine ⟨⟨by omega, by omega⟩, ?_⟩
      have hje : j = ordr c m := by omega
      subst hje
      exact ⟨_, by omega, ci ⟨v + 1, ys, _, rfl, ⟨rfl, rfl, rfl, rfl, rfl, trivial⟩, rfl, by omega, ⟨hmv ▸ VNto_end hc hm hlead hy.h⟩⟩⟩
  · have hve : v = C.length := by omega
    subst hve
    have hyl : ys.length = n := hy.h.1
    refine endf (fz_ints (xs := ys) rfl (by omega)) ?_
    rw [hend ys hy.h]
end Go.PI
/- THE MESH of a tiling. -/
open Go.Proofs
namespace Go.PI
open IM
set_option maxRecDepth 10000
set_option maxHeartbeats 4000000
variable (S : FuncId → Option (List AV → Heap → Option (AV × Heap)))
/-- an edge: where it begins and ends, what is left and right of it -/
noncomputable def edg (n : Nat) (c f f' g g' : Nat → Nat) (q : Nat) : List PV :=
  if q < n then [pn (vn c q), pn (vn c (f q)), pn q, pn (g' q)] else [pn (vn c (q - n)), pn (vn c (g (q - n))), pn (f' (q - n)), pn ((q - n : Nat) : Int)]
theorem edg_len {n : Nat} {c f f' g g' : Nat → Nat} (q : Nat) : (edg n c f f' g g' q).length = 4 := by unfold edg; split <;> rfl
/-- the edges of the first i squares -/
noncomputable def edgTo (n i : Nat) (c f f' g g' : Nat → Nat) (q : Nat) : List PV := if q < i ∨ (n ≤ q ∧ q < n + i) then edg n c f f' g g' q else [pn 0, pn 0, pn 0, pn 0]
theorem edgTo_len {n i : Nat} {c f f' g g' : Nat → Nat} (q : Nat) : (edgTo n i c f f' g g' q).length = 4 := by unfold edgTo; split; exact edg_len q; rfl
theorem FC_rep {m : Nat} {z : List PV} : (List.replicate m z).flatten = FC (fun _ => z) m := by
  unfold FC
  induction m with
  | zero => rfl
  | succ m ih => rw [List.range_succ, List.flatMap_append, List.replicate_succ', List.flatten_append, ih]; simp
theorem edgTo_zero {n m : Nat} {c f f' g g' : Nat → Nat} : (List.replicate m [pn 0, pn 0, pn 0, pn 0]).flatten = FC (edgTo n 0 c f f' g g') m := by
  rw [FC_rep]
  refine FC_eq fun i hi => ?_
  unfold edgTo
  rw [if_neg (by omega)]
def Ocl : Opn := ⟨fun t => Nat.beq t 84, fun t => Nat.beq t 84, false⟩
theorem fn87 : ctx.fn 87 = some c87 := by kernel_rfl
theorem cells_cb (hS : OldO S) {r u : List Int} {n : Nat} {f f' g g' : Nat → Nat} (ho : IsO r u n f f' g g') {v0 v1 e : PV} :
    Cb (ctx.plus S) 87 [.bptr [v0, v1, e, pIs (PL n f), pIs (PL n g), pIs (PL n f'), pIs (PL n g'), pM (cycs n (cmf f f' g g'))]] 5 fun w => w = .agg [pn (cycs n (cmf f f' g g')).length, pn n, .lst (2 * n) (FC (edg n (cmf f f' g g') f f' g g') (2 * n))] := by
  have hn := ho.le
  have hc := ho.cm
  obtain ⟨c, hcc⟩ : ∃ c, c = cmf f f' g g' := ⟨_, rfl⟩
  rw [← hcc] at hc ⊢
  refine cbO_of Ocl (hS 87 (by decide)) fn87 ?_
  refine ⟨by omega, ?_⟩
  refine calb lend_b rfl (by simp) (squares_cb S hS) (by omega) ?_
  rintro _ rfl
  rw [PL_len]
  refine calb lend_b rfl (by simp) (vertexNumbers_cb S hS hc hn PL_len) (by omega) ?_
  rintro _ rfl
  refine ⟨by kernel_rfl, ?_⟩
  refine ⟨Nat.le_of_ble_eq_true rfl, ?_⟩
  refine ⟨_, rfl, rfl, ?_⟩
  refine ⟨⟨by omega, by omega⟩, ?_⟩
  refine ⟨by omega, ⟨by omega, by omega, by omega⟩, FC (edgTo n 0 c f f' g g') (2 * (n : Int)).toNat, edgTo_zero, ?_⟩
  refine ⟨_, rfl, ?_⟩
  refine ⟨by omega, ?_⟩
  refine ⟨_, _, rfl, ⟨rfl, Nat.le_of_ble_eq_true rfl, rfl⟩, _, rfl, _, rfl, ?_⟩
  obtain ⟨N, hN⟩ : ∃ N, N = (2 * (n : Int)).toNat := ⟨_, rfl⟩
  have hN2 : N = 2 * n := by omega
  refine ⟨fun m s => ∃ (i : Nat) (T : List PV), s = ⟨T, [.liv 84 [pn 0, pn 0, .nils], .live 117 (FC (edgTo n i c f f' g g') (2 * (n : Int)).toNat), .liv 84 [pn (cycs n c).length, pn n, .own 1 0 (2 * (n : Int)).toNat (2 * (n : Int)).toNat 4]], 4⟩ ∧ Gt T 83 [(0, .bptr [v0, v1, e, pIs (PL n f), pIs (PL n g), pIs (PL n f'), pIs (PL n g'), pM (cycs n c)]), (2, .optr 0 0), (3, pn n), (4, pIs (PL n (vn c))), (5, .optr 2 0), (21, pn n), (22, pn i)] ∧ m = n - i ∧ i ≤ n, ⟨_, ci ⟨0, _, rfl, ⟨rfl, rfl, rfl, rfl, rfl, rfl, rfl, rfl, trivial⟩, rfl, Nat.zero_le _⟩⟩, ?_⟩
  rintro _ s ⟨i, T, rfl, hT, rfl, hi⟩
  obtain ⟨J, rfl⟩ := gt_open hT
  clear hT
  refine ⟨fun hlt => ?_, fun hge => ?_⟩
  · have hin : i < n := by omega
    have hf := ho.pr.lt i hin
    have hg := ho.pu.lt i hin
    have hf' := ho.pr.glt i hin
    have hg' := ho.pu.glt i hin
    have lv : (PL n (vn c)).length = n := PL_len
    have l1 : (PL n f).length = n := PL_len
    have l2 : (PL n g).length = n := PL_len
    have l3 : (PL n f').length = n := PL_len
    have l4 : (PL n g').length = n := PL_len
    refine ⟨by kernel_rfl, ?_⟩
    refine ⟨_, load_liv rfl rfl rfl, rfl, ?_⟩
    refine ⟨⟨⟨by omega, by omega⟩, len_map_le (by omega)⟩, ?_⟩
    refine ⟨_, ld (at_map (PL_get hin)) (by show _ * 1 = i; omega), rfl, ?_⟩
    refine ⟨Nat.le_of_ble_eq_true rfl, ?_⟩
    refine ⟨_, rfl, rfl, ?_⟩
    refine ⟨⟨⟨by omega, by omega⟩, len_map_le (by omega)⟩, ?_⟩
    refine ⟨_, ld (at_map (PL_get hin)) (by show _ * 1 = i; omega), rfl, ?_⟩
    refine ⟨⟨⟨by omega, by omega⟩, len_map_le (by omega)⟩, ?_⟩
    refine ⟨_, ld (at_map (PL_get hf)) (by show _ * 1 = f i; omega), rfl, ?_⟩
    refine ⟨Nat.le_of_ble_eq_true rfl, ?_⟩
    refine ⟨_, rfl, rfl, ?_⟩
    refine ⟨⟨⟨by omega, by omega⟩, len_map_le (by omega)⟩, ?_⟩
    refine ⟨_, ld (at_map (PL_get hin)) (by show _ * 1 = i; omega), rfl, ?_⟩
    refine partc rfl ⟨_, rfl, ?_⟩
    refine ⟨⟨by omega, by omega⟩, ?_⟩
    have hE1 : ∀ q, q = 4 * i → pspl (FC (edgTo n i c f f' g g') (2 * (n : Int)).toNat) q [pn (vn c i), pn (vn c (f i)), pn i, pn (g' i)] = FC (fun j => if j = i then [pn (vn c i), pn (vn c (f i)), pn i, pn (g' i)] else edgTo n i c f f' g g' j) (2 * (n : Int)).toNat := fun q hq => FC_put edgTo_len rfl (by omega) hq
    have hEl : ∀ F : Nat → List PV, (∀ i, (F i).length = 4) → (FC F (2 * (n : Int)).toNat).length = 4 * (2 * (n : Int)).toNat := fun F h => FC_len h
    have hEl1 := hEl _ (edgTo_len (n := n) (i := i) (c := c) (f := f) (f' := f') (g := g) (g' := g'))
    refine ⟨_, _, rfl, ⟨rfl, by rw [hEl1]; show 0 + i * 4 + 4 ≤ _; omega, rfl⟩, _, hE1 (0 + i * 4) (by omega), _, rfl, ?_⟩
    refine ⟨by kernel_rfl, ?_⟩
    refine ⟨_, load_liv rfl rfl rfl, rfl, ?_⟩
    refine calb (ps := [pn i]) lend_b rfl (by simp) (side_cb S hS (by omega) (by omega)) (by omega) ?_
    rintro _ rfl
    refine ⟨⟨⟨by omega, by omega⟩, len_map_le (by omega)⟩, ?_⟩
    refine ⟨_, ld (at_map (PL_get hin)) (by show _ * 1 = i; omega), rfl, ?_⟩
    refine ⟨Nat.le_of_ble_eq_true rfl, ?_⟩
    refine ⟨_, rfl, rfl, ?_⟩
    refine ⟨⟨⟨by omega, by omega⟩, len_map_le (by omega)⟩, ?_⟩
    refine ⟨_, ld (at_map (PL_get hin)) (by show _ * 1 = i; omega), rfl, ?_⟩
    refine ⟨⟨⟨by omega, by omega⟩, len_map_le (by omega)⟩, ?_⟩
    refine ⟨_, ld (at_map (PL_get hg)) (by show _ * 1 = g i; omega), rfl, ?_⟩
    refine ⟨Nat.le_of_ble_eq_true rfl, ?_⟩
    refine ⟨_, rfl, rfl, ?_⟩
    refine ⟨⟨⟨by omega, by omega⟩, len_map_le (by omega)⟩, ?_⟩
    refine ⟨_, ld (at_map (PL_get hin)) (by show _ * 1 = i; omega), rfl, ?_⟩
    refine partc rfl ⟨_, rfl, ?_⟩
    refine ⟨⟨by omega, by omega⟩, ?_⟩
    have hL2 : ∀ j : Nat, (if j = i then [pn (vn c i), pn (vn c (f i)), pn i, pn (g' i)] else edgTo n i c f f' g g' j).length = 4 := fun j => by
      split
      · rfl
      · exact edgTo_len j
    have hE2 : ∀ q, q = 4 * (n + i) → pspl (FC (fun j => if j = i then [pn (vn c i), pn (vn c (f i)), pn i, pn (g' i)] else edgTo n i c f f' g g' j) (2 * (n : Int)).toNat) q [pn (vn c i), pn (vn c (g i)), pn (f' i), pn i] = FC (edgTo n (i + 1) c f f' g g') (2 * (n : Int)).toNat := fun q hq => by
      rw [FC_put hL2 rfl (by omega) hq]
      refine FC_eq fun j hj => ?_
      unfold edgTo edg
      by_cases h1 : j = n + i
      · rw [if_pos h1, if_pos (.inr (by omega)), if_neg (by omega), show j - n = i by omega]
      · rw [if_neg h1]
        by_cases h2 : j = i
        · rw [if_pos h2, if_pos (.inl (by omega)), if_pos (by omega), h2]
        · rw [if_neg h2]
          by_cases h3 : j < i ∨ (n ≤ j ∧ j < n + i)
          · rw [if_pos h3, if_pos (c := j < i + 1 ∨ _) (by omega)]
          · rw [if_neg h3, if_neg (c := j < i + 1 ∨ _) (by omega)]
    refine ⟨_, _, rfl, ⟨rfl, by rw [hEl _ hL2]; show 0 + ((((PL n f).length : Int) + i).toNat) * 4 + 4 ≤ _; omega, rfl⟩, _, hE2 (0 + (((PL n f).length : Int) + i).toNat * 4) (by omega), _, rfl, ?_⟩
    refine ⟨⟨by omega, by omega⟩, ?_⟩
    exact ⟨_, by omega, ci ⟨i + 1, _, rfl, ⟨rfl, rfl, rfl, rfl, rfl, rfl, rfl, rfl, trivial⟩, rfl, by omega⟩⟩
  · have hin : i = n := by omega
    subst hin
    refine ⟨_, load_liv rfl rfl rfl, ?_⟩
    refine ⟨_, _, rfl, ⟨rfl, Nat.le_of_ble_eq_true rfl, rfl⟩, _, rfl, _, rfl, ?_⟩
    refine ⟨_, load_liv rfl rfl rfl, ?_⟩
    have hE : FC (edgTo i i c f f' g g') (2 * (i : Int)).toNat = FC (edg i c f f' g g') (2 * (i : Int)).toNat := FC_eq fun j hj => by
      unfold edgTo
      rw [if_pos (by omega)]
    have hEl : (FC (edgTo i i c f f' g g') (2 * (i : Int)).toNat).length = 4 * (2 * (i : Int)).toNat := FC_len edgTo_len
    refine endf (p := .agg [pn (cycs i c).length, pn i, .lst (2 * (i : Int)).toNat (FC (edg i c f f' g g') (2 * (i : Int)).toNat)]) (fun K hK => ⟨117, _, _, rfl, ⟨by omega, Nat.le_refl _⟩, by rw [List.drop_zero, List.take_of_length_le (by omega), hE], hK⟩) ?_
    rw [show (2 * (i : Int)).toNat = 2 * i by omega]
end Go.PI
