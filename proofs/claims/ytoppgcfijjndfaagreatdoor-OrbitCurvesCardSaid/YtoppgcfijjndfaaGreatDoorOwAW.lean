/- Own work of the verifier: OgMath OrA OrB OrC OrD. -/
import Derived.Test.YtoppgcfijjndfaaGreatDoorOwAV
set_option linter.all false
set_option exponentiation.threshold 3000
set_option linter.deprecated false
/- PERMUTATIONS OF 0 TO n - 1: iterates, cycles, what a list of integers has to be for it. -/
namespace Go.PI
theorem len_le_of {α : Type} [DecidableEq α] : ∀ {l m : List α}, l.Nodup → (∀ x ∈ l, x ∈ m) → l.length ≤ m.length
  | [], m, _, _ => Nat.zero_le _
  | a :: l, m, hl, h => by
    have ha : a ∈ m := h a (by simp)
    have hn := List.nodup_cons.1 hl
    have := len_le_of (m := m.erase a) hn.2 fun x hx => (List.mem_erase_of_ne (fun e => hn.1 (by rw [← e]; exact hx))).2 (h x (by simp [hx]))
    rw [List.length_erase_of_mem ha] at this
    have hp := List.length_pos_of_mem ha
    simp only [List.length_cons]
    omega
theorem ex_least {P : Nat → Prop} (h : ∃ n, P n) : ∃ n, P n ∧ ∀ m, m < n → ¬ P m := by
  obtain ⟨n, hn⟩ := h
  induction n using Nat.strongRecOn with
  | ind n ih =>
    by_cases h : ∃ m, m < n ∧ P m
    · obtain ⟨m, h1, h2⟩ := h; exact ih m h1 h2
    · exact ⟨n, hn, fun m hm hp => h ⟨m, hm, hp⟩⟩
def PL (n : Nat) (f : Nat → Nat) : List Int := (List.range n).map fun i => (f i : Int)
structure IsP (n : Nat) (f g : Nat → Nat) : Prop where
  lt : ∀ i, i < n → f i < n
  glt : ∀ i, i < n → g i < n
  gf : ∀ i, i < n → g (f i) = i
  fg : ∀ i, i < n → f (g i) = i
theorem IsP.inv {n : Nat} {f g : Nat → Nat} (h : IsP n f g) : IsP n g f := ⟨h.glt, h.lt, h.fg, h.gf⟩
theorem IsP.comp {n : Nat} {f g f' g' : Nat → Nat} (h : IsP n f g) (k : IsP n f' g') : IsP n (fun i => f' (f i)) (fun i => g (g' i)) :=
  ⟨fun i hi => k.lt _ (h.lt i hi), fun i hi => h.glt _ (k.glt i hi), fun i hi => by show g (g' (f' (f i))) = i; rw [k.gf _ (h.lt i hi), h.gf i hi], fun i hi => by show f' (f (g (g' i))) = i; rw [h.fg _ (k.glt i hi), k.fg i hi]⟩
theorem IsP.inj {n : Nat} {f g : Nat → Nat} (h : IsP n f g) {i j : Nat} (hi : i < n) (hj : j < n) (e : f i = f j) : i = j := by rw [← h.gf i hi, e, h.gf j hj]
theorem PL_len {n : Nat} {f : Nat → Nat} : (PL n f).length = n := by simp [PL]
theorem PL_get {n : Nat} {f : Nat → Nat} {i : Nat} (h : i < n) : (PL n f)[i]? = some (f i : Int) := by simp [PL, h]
theorem PL_eq {n : Nat} {f f' : Nat → Nat} (h : ∀ i, i < n → f i = f' i) : PL n f = PL n f' := by
  unfold PL
  refine List.map_congr_left fun i hi => ?_
  rw [h i (List.mem_range.1 hi)]
theorem PL_ext {n : Nat} {f : Nat → Nat} {xs : List Int} (hl : xs.length = n) (h : ∀ i, i < n → xs[i]? = some (f i : Int)) : xs = PL n f := by
  refine List.ext_getElem? fun i => ?_
  by_cases hi : i < n
  · rw [h i hi, PL_get hi]
  · rw [List.getElem?_eq_none (by omega), List.getElem?_eq_none (by rw [PL_len]; omega)]
def InR (xs : List Int) : Prop := ∀ x ∈ xs, 0 ≤ x ∧ x < xs.length
open Classical in
noncomputable def chkP (xs : List Int) : Int := if InR xs then if xs.Nodup then 0 else 3 else 2
theorem surj_of {xs : List Int} (h1 : InR xs) (h2 : xs.Nodup) {i : Nat} (hi : i < xs.length) : (i : Int) ∈ xs := by
  by_cases h : (i : Int) ∈ xs
  · exact h
  · exfalso
    have := len_le_of (l := (i : Int) :: xs) (m := List.map (fun k : Nat => (k : Int)) (List.range xs.length)) (List.nodup_cons.2 ⟨h, h2⟩) fun x hx => by
      rcases List.mem_cons.1 hx with rfl | hx
      · exact List.mem_map.2 ⟨i, List.mem_range.2 hi, rfl⟩
      · obtain ⟨a, b⟩ := h1 x hx
        exact List.mem_map.2 ⟨x.toNat, List.mem_range.2 (by omega), by omega⟩
    simp only [List.length_cons, List.length_map, List.length_range] at this
    omega
theorem perm_of {xs : List Int} (h1 : InR xs) (h2 : xs.Nodup) : ∃ f g, xs = PL xs.length f ∧ IsP xs.length f g := by
  have hget : ∀ i, i < xs.length → xs[i]? = some (((xs.getD i 0).toNat : Nat) : Int) := fun i hi => by
    have e := List.getElem?_eq_getElem hi
    have := h1 _ (List.getElem_mem hi)
    rw [List.getD_eq_getElem?_getD, e]
    simp only [Option.getD_some]
    congr 1
    omega
  have hin : ∀ i, i < xs.length → (xs.getD i 0).toNat < xs.length := fun i hi => by
    have := h1 _ (List.mem_of_getElem? (hget i hi))
    omega
  have hidx : ∀ i, i < xs.length → xs.idxOf (i : Int) < xs.length := fun i hi => List.idxOf_lt_length_of_mem (surj_of h1 h2 hi)
  have hat : ∀ i, i < xs.length → xs[xs.idxOf (i : Int)]? = some (i : Int) := fun i hi => by
    rw [List.getElem?_eq_getElem (hidx i hi), List.getElem_idxOf]
  refine ⟨fun i => (xs.getD i 0).toNat, fun i => xs.idxOf (i : Int), PL_ext rfl hget, hin, hidx, fun i hi => ?_, fun i hi => ?_⟩
  · have a := hat _ (hin i hi)
    rw [← hget i hi] at a
    exact (List.getElem?_inj (hidx _ (hin i hi)) h2).1 a
  · have a := hget _ (hidx i hi)
    rw [hat i hi] at a
    simp only [Option.some.injEq] at a
    omega
theorem inR_PL {n : Nat} {f g : Nat → Nat} (h : IsP n f g) : InR (PL n f) := fun x hx => by
  rw [PL_len]
  obtain ⟨i, hi, rfl⟩ := List.mem_map.1 hx
  have := h.lt i (List.mem_range.1 hi)
  omega
theorem chk2 {xs : List Int} (h : ¬ InR xs) : chkP xs = 2 := by unfold chkP; rw [if_neg h]
theorem chk3 {xs : List Int} (h : InR xs) (h2 : ¬ xs.Nodup) : chkP xs = 3 := by unfold chkP; rw [if_pos h, if_neg h2]
theorem chk0 {xs : List Int} (h : InR xs) (h2 : xs.Nodup) : chkP xs = 0 := by unfold chkP; rw [if_pos h, if_pos h2]
theorem chkP_cases (xs : List Int) : (chkP xs = 0 ∧ InR xs ∧ xs.Nodup) ∨ chkP xs = 3 ∨ chkP xs = 2 := by
  by_cases h : InR xs
  · by_cases h2 : xs.Nodup
    · exact .inl ⟨chk0 h h2, h, h2⟩
    · exact .inr (.inl (chk3 h h2))
  · exact .inr (.inr (chk2 h))
def it (f : Nat → Nat) : Nat → Nat → Nat
  | 0, x => x
  | k + 1, x => f (it f k x)
section
variable {n : Nat} {f g : Nat → Nat} {x y : Nat}
theorem it_add (f : Nat → Nat) (a b x : Nat) : it f (a + b) x = it f a (it f b x) := by
  induction a with
  | zero => simp [it]
  | succ a ih => rw [show a + 1 + b = a + b + 1 by omega]; simp only [it]; rw [ih]
theorem it_lt (h : IsP n f g) (hx : x < n) (k : Nat) : it f k x < n := by
  induction k with
  | zero => exact hx
  | succ k ih => exact h.lt _ ih
theorem it_inj (h : IsP n f g) (hx : x < n) (hy : y < n) : ∀ {k : Nat}, it f k x = it f k y → x = y
  | 0, e => e
  | k + 1, e => it_inj h hx hy (h.inj (it_lt h hx k) (it_lt h hy k) e)
theorem it_mul {m : Nat} (h : it f m x = x) (q : Nat) : it f (m * q) x = x := by
  induction q with
  | zero => rfl
  | succ q ih => rw [Nat.mul_succ, it_add, h, ih]
theorem returns (h : IsP n f g) (hx : x < n) : ∃ m, 0 < m ∧ m ≤ n ∧ it f m x = x := by
  by_cases hc : ∃ a b, a < b ∧ b ≤ n ∧ it f a x = it f b x
  · obtain ⟨a, b, h1, h2, h3⟩ := hc
    refine ⟨b - a, by omega, by omega, ?_⟩
    have e : it f b x = it f a (it f (b - a) x) := by rw [← it_add]; congr 1; omega
    rw [e] at h3
    exact (it_inj h hx (it_lt h hx _) h3).symm
  · exfalso
    have hd : ((List.range (n + 1)).map fun k => it f k x).Nodup := by
      unfold List.Nodup
      rw [List.pairwise_map]
      exact List.pairwise_lt_range.imp_of_mem fun {a b} _ hb hab e => hc ⟨a, b, hab, by have := List.mem_range.1 hb; omega, e⟩
    have := len_le_of hd (m := List.range n) fun y hy => by
      obtain ⟨k, -, rfl⟩ := List.mem_map.1 hy
      exact List.mem_range.2 (it_lt h hx k)
    simp only [List.length_map, List.length_range] at this
    omega
open Classical in
/-- the length of a cycle -/
noncomputable def ordr (f : Nat → Nat) (x : Nat) : Nat := if h : ∃ m, 0 < m ∧ it f m x = x then (ex_least h).choose else 0
theorem ordr_spec (h : IsP n f g) (hx : x < n) : 0 < ordr f x ∧ it f (ordr f x) x = x ∧ ordr f x ≤ n ∧ ∀ m, 0 < m → m < ordr f x → it f m x ≠ x := by
  obtain ⟨m, h1, h2, h3⟩ := returns h hx
  have he : ∃ m, 0 < m ∧ it f m x = x := ⟨m, h1, h3⟩
  have hs := (ex_least he).choose_spec
  have e : ordr f x = (ex_least he).choose := by unfold ordr; rw [dif_pos he]
  rw [← e] at hs
  refine ⟨hs.1.1, hs.1.2, ?_, fun m a b c => hs.2 m b ⟨a, c⟩⟩
  refine Nat.le_trans (Nat.le_of_not_lt fun hlt => ?_) h2
  exact hs.2 m hlt ⟨h1, h3⟩
def InC (f : Nat → Nat) (x y : Nat) : Prop := ∃ k, it f k x = y
theorem InC.refl (f : Nat → Nat) (x : Nat) : InC f x x := ⟨0, rfl⟩
theorem InC.trans {z : Nat} (a : InC f x y) (b : InC f y z) : InC f x z := by
  obtain ⟨k, rfl⟩ := a
  obtain ⟨m, rfl⟩ := b
  exact ⟨m + k, it_add f m k x⟩
theorem InC.symm (h : IsP n f g) (hx : x < n) (a : InC f x y) : InC f y x := by
  obtain ⟨k, rfl⟩ := a
  obtain ⟨h1, h2, -⟩ := ordr_spec h hx
  refine ⟨ordr f x * k - k, ?_⟩
  have : k ≤ ordr f x * k := Nat.le_mul_of_pos_left k h1
  rw [← it_add, show ordr f x * k - k + k = ordr f x * k by omega, it_mul h2]
noncomputable def cyc (f : Nat → Nat) (x : Nat) : List Int := (List.range (ordr f x)).map fun k => ((it f k x : Nat) : Int)
theorem cyc_len : (cyc f x).length = ordr f x := by simp [cyc]
theorem mem_cyc (h : IsP n f g) (hx : x < n) {v : Int} : v ∈ cyc f x ↔ ∃ y : Nat, v = y ∧ InC f x y := by
  constructor
  · intro hv
    obtain ⟨k, -, rfl⟩ := List.mem_map.1 hv
    exact ⟨_, rfl, k, rfl⟩
  · rintro ⟨y, rfl, k, rfl⟩
    obtain ⟨h1, h2, -⟩ := ordr_spec h hx
    refine List.mem_map.2 ⟨k % ordr f x, List.mem_range.2 (Nat.mod_lt _ h1), ?_⟩
    have : it f k x = it f (k % ordr f x) x := by
      conv => lhs; rw [← Nat.mod_add_div k (ordr f x)]
      rw [it_add, it_mul h2]
    rw [this]
def lead (f : Nat → Nat) (x : Nat) : Prop := ∀ y, InC f x y → x ≤ y
open Classical in
/-- the cycles -/
noncomputable def cycs (n : Nat) (f : Nat → Nat) : List (List Int) := ((List.range n).filter fun x => decide (lead f x)).map fun x => cyc f x
open Classical in
theorem cycs_step {i : Nat} : cycs (i + 1) f = if lead f i then cycs i f ++ [cyc f i] else cycs i f := by
  unfold cycs
  rw [List.range_succ, List.filter_append]
  by_cases h : lead f i
  · simp [h]
  · simp [h]
end
end Go.PI
/- LISTS OF INTEGERS: what is asked of permutations. -/
open Go.Proofs
namespace Go.PI
open IM
set_option maxRecDepth 10000
set_option maxHeartbeats 4000000
variable (S : FuncId → Option (List AV → Heap → Option (AV × Heap)))
theorem xs_get {xs : List Int} {i : Nat} (h : i < xs.length) : ∃ e, xs[i]? = some e := ⟨xs[i], List.getElem?_eq_getElem _⟩
theorem fz_fnc1 {f i : Nat} {ty : TypeId} {cs : List PV} {σ : List StB} (h : contOf σ i = some (ty, cs)) : Fz (.fnc f [.optr i 0]) σ (.fnc f [.lptr cs]) (σ.set i (.frz ty cs)) := fun _ hK => ⟨ty, cs, h, Nat.zero_le _, hK⟩
theorem cloA_of {p : PV} (h : clo p = true) : cloA p = true := by cases p <;> first | exact h | cases h
theorem cloAs_of : ∀ {ps : List PV}, clos ps = true → cloAs ps = true
  | [], _ => rfl
  | p :: ps, h => by
    simp only [clos, Bool.and_eq_true] at h
    simp only [cloAs, cloA_of h.1, cloAs_of h.2, Bool.and_self]
theorem cloAs_cons {p : PV} {ps : List PV} (h1 : cloA p = true) (h : clos ps = true) : cloAs (p :: ps) = true := by simp only [cloAs, h1, cloAs_of h, Bool.and_self]
theorem fn175 : ctx.fn 175 = some c175 := by kernel_rfl
theorem fn174 : ctx.fn 174 = some c174 := by kernel_rfl
theorem fn196 : ctx.fn 196 = some c196 := by kernel_rfl
theorem fn151 : ctx.fn 151 = some c151 := by kernel_rfl
theorem fn127 : ctx.fn 127 = some c127 := by kernel_rfl
theorem within_ct (hS : OldO S) {n a b : Int} : Ct (ctx.plus S) 175 [pn n, pn a, pn b] 0 fun r => r = .bool (decide (a ≤ n ∧ n ≤ b)) := by
  refine ct_of (hS 175 (by decide)) fn175 ?_
  refine ⟨fun h1 => ?_, fun h1 => ?_⟩
  · refine ⟨fun h2 => ?_, fun h2 => ?_⟩
    · exact endq rfl (by rw [decide_eq_true ⟨by omega, by omega⟩])
    · exact endq rfl (by rw [decide_eq_false (by omega)])
  · exact endq rfl (by rw [decide_eq_false (by omega)])
theorem outside_ct (hS : OldO S) {xs : List Int} {x : Int} (hl : xs.length ≤ 1000000) : Ct (ctx.plus S) 174 [pn x, .lptr [pIs xs]] 0 fun r => r = .bool (!decide (0 ≤ x ∧ x < xs.length)) := by
  refine ct_of (hS 174 (by decide)) fn174 ?_
  refine ⟨_, rfl, ?_⟩
  refine ⟨⟨by omega, by omega⟩, ?_⟩
  refine callq rfl (within_ct S hS) (by omega) ?_
  rintro _ rfl
  by_cases h : 0 ≤ x ∧ x < xs.length
  · rw [decide_eq_true (show 0 ≤ x ∧ x ≤ xs.length - 1 by omega), decide_eq_true h]
    exact endq rfl rfl
  · rw [decide_eq_false (show ¬ (0 ≤ x ∧ x ≤ xs.length - 1) by omega), decide_eq_false h]
    exact endq rfl rfl
theorem indexFunc_ct (hS : OldO S) {xs : List Int} {g d : Nat} {cs : List PV} {P : Int → Bool} (hc : clos cs = true) (hl : xs.length ≤ 1000000) (hg : ∀ x ∈ xs, Ct (ctx.plus S) g (pn x :: cs) 0 fun r => r = .bool (P x)) :
    Ct (ctx.plus S) 196 [pIs xs, .fnc g cs] 0 fun r => ∃ v : Int, r = pn v ∧ (0 ≤ v ↔ ∃ x ∈ xs, P x = true) := by
  refine ct_of (hS 196 (by decide)) fn196 ?_
  refine ⟨fun m s => ∃ (i : Nat) (T : List PV), s = ⟨T, [], 0⟩ ∧ Gt T 19 [(0, pIs xs), (1, .fnc g cs), (7, pn xs.length), (8, pn i)] ∧ m = xs.length - i ∧ i ≤ xs.length ∧ Hid (∀ x ∈ xs.take i, P x = false), ⟨_, ci ⟨0, _, rfl, ⟨rfl, rfl, rfl, rfl, rfl, trivial⟩, rfl, Nat.zero_le _, ⟨fun x hx => by simp at hx⟩⟩⟩, ?_⟩
  rintro _ s ⟨i, T, rfl, hT, rfl, hi, hn⟩
  obtain ⟨J, rfl⟩ := gt_open hT
  clear hT
  refine ⟨fun hlt => ?_, fun hge => ?_⟩
  · obtain ⟨e, he⟩ := xs_get (xs := xs) (i := i) (by omega)
    have hm := List.mem_of_getElem? he
    refine ⟨⟨⟨by omega, by omega⟩, len_map_le (by omega)⟩, ?_⟩
    refine ⟨_, ld (at_map he) (by show _ * 1 = i; omega), ?_⟩
    refine callq (ps := pn e :: cs) (cloAs_cons rfl hc) (hg e hm) (by omega) ?_
    rintro _ rfl
    cases hp : P e with
    | true => exact endq rfl ⟨i, rfl, fun _ => ⟨e, hm, hp⟩, fun _ => by omega⟩
    | false =>
      refine ⟨⟨by omega, by omega⟩, ?_⟩
      exact ⟨_, by omega, ci ⟨i + 1, _, rfl, ⟨rfl, rfl, rfl, rfl, rfl, trivial⟩, rfl, by omega, ⟨fun x hx => by
        rw [take_snoc he] at hx
        rcases List.mem_append.1 hx with hx | hx
        · exact hn.h x hx
        · rw [List.mem_singleton.1 hx]; exact hp⟩⟩⟩
  · refine endq rfl ⟨-1, rfl, fun h => by omega, fun ⟨x, hx, hp⟩ => ?_⟩
    have := hn.h x (by rw [List.take_of_length_le (by omega)]; exact hx)
    rw [hp] at this
    cases this
theorem containsFunc_ct (hS : OldO S) {xs : List Int} {g d : Nat} {cs : List PV} {P : Int → Bool} (hc : clos cs = true) (hl : xs.length ≤ 1000000) (hg : ∀ x ∈ xs, Ct (ctx.plus S) g (pn x :: cs) 0 fun r => r = .bool (P x)) :
    Ct (ctx.plus S) 151 [pIs xs, .fnc g cs] 0 fun r => ((∃ x ∈ xs, P x = true) ∧ r = .bool true) ∨ ((∀ x ∈ xs, P x = false) ∧ r = .bool false) := by
  refine ct_of (hS 151 (by decide)) fn151 ?_
  refine callq (ps := [pIs xs, .fnc g cs]) (by simp only [cloAs, cloA, hc]; rfl) (indexFunc_ct S hS hc hl hg (d := d)) (by omega) ?_
  rintro _ ⟨v, rfl, hv⟩
  refine ⟨fun h => ?_, fun h => ?_⟩
  · exact endq rfl (.inl ⟨hv.1 h, rfl⟩)
  · exact endq rfl (.inr ⟨fun x hx => by
      cases hp : P x with
      | false => rfl
      | true => exact absurd (hv.2 ⟨x, hx, hp⟩) (by omega), rfl⟩)
def SeenF (xs : List Int) (i : Nat) (fl : List Bool) : Prop := fl.length = xs.length ∧ (xs.take i).Nodup ∧ ∀ j : Nat, fl[j]? = some true ↔ (j : Int) ∈ xs.take i ∧ j < xs.length
theorem seen_next {xs : List Int} {i j : Nat} {fl : List Bool} (h : SeenF xs i fl) (he : xs[i]? = some (j : Int)) (hj : j < xs.length) (hf : fl[j]? = some false) : SeenF xs (i + 1) (fl.set j true) := by
  obtain ⟨h1, h2, h3⟩ := h
  have hni : (j : Int) ∉ xs.take i := fun hm => by
    have := (h3 j).2 ⟨hm, hj⟩
    rw [hf] at this; cases this
  refine ⟨by simp [h1], ?_, fun k => ?_⟩
  · rw [take_snoc he]
    exact List.nodup_append.2 ⟨h2, by simp, fun a ha b hb => by rw [List.mem_singleton.1 hb]; rintro rfl; exact hni ha⟩
  · rw [take_snoc he, List.mem_append]
    by_cases hk : k = j
    · subst hk
      rw [List.getElem?_set_self (by omega)]
      simp [hj]
    · rw [List.getElem?_set_ne (Ne.symm hk), h3 k]
      constructor
      · rintro ⟨a, b⟩; exact ⟨.inl a, b⟩
      · rintro ⟨a | a, b⟩
        · exact ⟨a, b⟩
        · have := List.mem_singleton.1 a
          omega
theorem flg_zero {n : Nat} : (List.replicate n [PV.bool false]).flatten = (List.replicate n false).map PV.bool := by
  rw [List.flatten_replicate_singleton, List.map_replicate]
theorem flg_put {fl : List Bool} {o j : Nat} (ho : o = j) (hj : j < fl.length) : pspl (fl.map PV.bool) o [.bool true] = (fl.set j true).map PV.bool := by
  rw [spl_at ho (by rw [List.length_map]; exact hj), List.map_set]
theorem checkP_ct (hS : OldO S) {xs : List Int} (hl : xs.length ≤ 1000000) : Ct (ctx.plus S) 127 [pIs xs] 2 fun r => r = pn (chkP xs) := by
  refine ct_of (hS 127 (by decide)) fn127 ?_
  refine ⟨by omega, ?_⟩
  refine ⟨_, rfl, ?_⟩
  refine cal2 (fzL) (fz_fnc1 rfl) (containsFunc_ct S hS (d := 0) (P := fun x => !decide (0 ≤ x ∧ x < xs.length)) rfl hl fun x _ => outside_ct S hS hl) (by omega) ?_
  rintro _ (⟨⟨x, hx, hp⟩, rfl⟩ | ⟨hall, rfl⟩)
  · exact endq rfl (by rw [chk2 fun h => by have := h x hx; simp [this] at hp])
  have hin : InR xs := fun x hx => by
    have := hall x hx
    simpa using this
  refine ⟨_, rfl, ?_⟩
  refine ⟨by omega, ⟨by omega, by omega, by omega⟩, _, flg_zero, ?_⟩
  refine ⟨_, rfl, ?_⟩
  have hn0 : SeenF xs 0 (List.replicate xs.length false) := ⟨by simp, by simp, fun j => by
    simp only [List.take_zero, List.not_mem_nil, false_and, iff_false]
    rw [List.getElem?_replicate]
    split <;> simp⟩
  refine ⟨fun m s => ∃ (i : Nat) (fl : List Bool) (T : List PV), s = ⟨T, [.frz 43 [pIs xs], .live 4 (fl.map PV.bool)], 2⟩ ∧ Gt T 26 [(1, .optr 0 0), (3, .own 1 0 xs.length xs.length 1), (12, pIs xs), (13, pn xs.length), (14, pn i)] ∧ m = xs.length - i ∧ i ≤ xs.length ∧ Hid (SeenF xs i fl), ⟨_, ci ⟨0, _, _, rfl, ⟨rfl, rfl, rfl, rfl, rfl, rfl, trivial⟩, rfl, Nat.zero_le _, ⟨hn0⟩⟩⟩, ?_⟩
  rintro _ s ⟨i, fl, T, rfl, hT, rfl, hi, hn⟩
  obtain ⟨J, rfl⟩ := gt_open hT
  clear hT
  refine ⟨fun hlt => ?_, fun hge => ?_⟩
  · obtain ⟨e, he⟩ := xs_get (xs := xs) (i := i) (by omega)
    have hm := hin e (List.mem_of_getElem? he)
    obtain ⟨j, rfl⟩ : ∃ j : Nat, e = j := ⟨e.toNat, by omega⟩
    have hj : j < xs.length := by omega
    have hfl : fl.length = xs.length := hn.h.1
    refine ⟨⟨⟨by omega, by omega⟩, len_map_le (by omega)⟩, ?_⟩
    refine ⟨_, ld (at_map he) (by show _ * 1 = i; omega), ?_⟩
    refine ⟨⟨by omega, by omega⟩, ?_⟩
    obtain ⟨b, hb⟩ : ∃ b, fl[j]? = some b := ⟨fl[j]'(by omega), List.getElem?_eq_getElem _⟩
    refine ⟨_, load_k rfl rfl rfl (at_map hb) (by show 0 + _ * 1 = j; omega), ?_⟩
    cases b with
    | true =>
      refine endq rfl ?_
      rw [chk3 hin fun hnd => ?_]
      have h1 := ((hn.h.2.2 j).1 hb).1
      obtain ⟨q, hq⟩ := List.getElem?_of_mem h1
      have hqi : q < i := by
        have := (List.getElem?_eq_some_iff.1 hq).1
        rw [List.length_take] at this; omega
      rw [List.getElem?_take, if_pos hqi] at hq
      rw [← he] at hq
      have := (List.getElem?_inj (by omega) hnd).1 hq
      omega
    | false =>
      refine ⟨⟨by omega, by omega⟩, ?_⟩
      refine ⟨_, _, rfl, ⟨rfl, by rw [List.length_map]; show 0 + j * 1 + 1 ≤ _; omega, rfl⟩, _, flg_put (by show 0 + j * 1 = j; omega) (by omega), _, rfl, ?_⟩
      refine ⟨⟨by omega, by omega⟩, ?_⟩
      exact ⟨_, by omega, ci ⟨i + 1, _, _, rfl, ⟨rfl, rfl, rfl, rfl, rfl, rfl, trivial⟩, rfl, by omega, ⟨seen_next hn.h he hj hb⟩⟩⟩
  · refine endq rfl ?_
    have := hn.h.2.1
    rw [List.take_of_length_le (by omega)] at this
    rw [chk0 hin this]
end Go.PI
/- ORIGAMIS: whether they are valid, of the program and of the reference. -/
open Go.Proofs
namespace Go.PI
open IM
set_option maxRecDepth 10000
set_option maxHeartbeats 4000000
variable (S : FuncId → Option (List AV → Heap → Option (AV × Heap)))
def pO (r u : List Int) : PV := .agg [pIs r, pIs u]
open Classical in
noncomputable def chkO (r u : List Int) : Int := if u.length ≠ r.length ∨ r.length = 0 then 10 else if 60 < r.length then 8 else if chkP r ≠ 0 then chkP r else chkP u
theorem chkO10 {r u : List Int} (h : u.length ≠ r.length ∨ r.length = 0) : chkO r u = 10 := by unfold chkO; rw [if_pos h]
theorem chkO8 {r u : List Int} (h : ¬ (u.length ≠ r.length ∨ r.length = 0)) (h2 : 60 < r.length) : chkO r u = 8 := by unfold chkO; rw [if_neg h, if_pos h2]
theorem chkOr {r u : List Int} (h : ¬ (u.length ≠ r.length ∨ r.length = 0)) (h2 : ¬ 60 < r.length) (h3 : chkP r ≠ 0) : chkO r u = chkP r := by unfold chkO; rw [if_neg h, if_neg h2, if_pos h3]
theorem chkOu {r u : List Int} (h : ¬ (u.length ≠ r.length ∨ r.length = 0)) (h2 : ¬ 60 < r.length) (h3 : chkP r = 0) : chkO r u = chkP u := by unfold chkO; rw [if_neg h, if_neg h2, if_neg (fun e => e h3)]
structure IsO (r u : List Int) (n : Nat) (f f' g g' : Nat → Nat) : Prop where
  pos : 0 < n
  le : n ≤ 60
  hr : r = PL n f
  hu : u = PL n g
  pr : IsP n f f'
  pu : IsP n g g'
theorem chkO_ok {r u : List Int} (h : chkO r u = 0) : ∃ n f f' g g', IsO r u n f f' g g' := by
  by_cases h1 : u.length ≠ r.length ∨ r.length = 0
  · rw [chkO10 h1] at h; omega
  by_cases h2 : 60 < r.length
  · rw [chkO8 h1 h2] at h; omega
  by_cases h3 : chkP r = 0
  · rw [chkOu h1 h2 h3] at h
    rcases chkP_cases r with ⟨-, a1, a2⟩ | a | a
    · rcases chkP_cases u with ⟨-, b1, b2⟩ | b | b
      · obtain ⟨f, f', e1, p1⟩ := perm_of a1 a2
        obtain ⟨g, g', e2, p2⟩ := perm_of b1 b2
        have hl : u.length = r.length := by omega
        rw [hl] at e2 p2
        exact ⟨r.length, f, f', g, g', by omega, by omega, e1, e2, p1, p2⟩
      · rw [b] at h; omega
      · rw [b] at h; omega
    · rw [a] at h3; omega
    · rw [a] at h3; omega
  · rw [chkOr h1 h2 h3] at h; exact absurd h h3
theorem fn83 : ctx.fn 83 = some c83 := by kernel_rfl
theorem check_ct (hS : OldO S) {r u : List Int} (l1 : r.length ≤ 1000000) (l2 : u.length ≤ 1000000) : Ct (ctx.plus S) 83 [pO r u] 5 fun v => v = pn (chkO r u) := by
  refine ct_of (hS 83 (by decide)) fn83 ?_
  refine ⟨by omega, ?_⟩
  refine ⟨_, rfl, ?_⟩
  refine ⟨_, rfl, ?_⟩
  refine ⟨fun h1 => ?_, fun h1 => ?_⟩
  · exact endq rfl (by rw [chkO10 (.inl (by omega))])
  refine ⟨fun h2 => ?_, fun h2 => ?_⟩
  · exact endq rfl (by rw [chkO10 (.inr (by omega))])
  have h12 : ¬ (u.length ≠ r.length ∨ r.length = 0) := by omega
  refine ⟨fun h3 => ?_, fun h3 => ?_⟩
  · exact endq rfl (by rw [chkO8 h12 (by omega)])
  refine ⟨_, rfl, ?_⟩
  refine callq rfl (checkP_ct S hS l1) (by omega) ?_
  rintro _ rfl
  refine ⟨fun h4 => ?_, fun h4 => ?_⟩
  · exact endq rfl (by rw [chkOr h12 (by omega) h4])
  refine ⟨_, rfl, ?_⟩
  refine callq rfl (checkP_ct S hS l2) (by omega) ?_
  rintro _ rfl
  exact endq rfl (by rw [chkOu h12 (by omega) h4])
theorem fn85 : ctx.fn 85 = some c85 := by kernel_rfl
theorem inr_to {xs : List Int} (h : ∀ x ∈ xs.take xs.length, 0 ≤ x ∧ x < xs.length) : InR xs := by rwa [List.take_length] at h
theorem checkList_ct (hS : OldO S) {xs : List Int} (hl : xs.length ≤ 1000000) : Ct (ctx.plus S) 85 [pIs xs, pn xs.length] 0 fun r => r = pn (chkP xs) := by
  refine ct_of (hS 85 (by decide)) fn85 ?_
  refine ⟨fun m s => ∃ (i : Nat) (T : List PV), s = ⟨T, [], 0⟩ ∧ Gt T 47 [(0, pIs xs), (1, pn xs.length), (5, pn i)] ∧ m = xs.length - i ∧ i ≤ xs.length ∧ Hid (∀ x ∈ xs.take i, 0 ≤ x ∧ x < xs.length), ⟨_, ci ⟨0, _, rfl, ⟨rfl, rfl, rfl, rfl, trivial⟩, rfl, Nat.zero_le _, ⟨fun x hx => by simp at hx⟩⟩⟩, ?_⟩
  rintro _ s ⟨i, T, rfl, hT, rfl, hi, hn⟩
  obtain ⟨J, rfl⟩ := gt_open hT
  clear hT
  refine ⟨fun hlt => ?_, fun hge => ?_⟩
  · obtain ⟨e, he⟩ := xs_get (xs := xs) (i := i) (by omega)
    refine ⟨⟨⟨by omega, by omega⟩, len_map_le (by omega)⟩, ?_⟩
    refine ⟨_, ld (at_map he) (by show _ * 1 = i; omega), ?_⟩
    have hbad : ¬ (0 ≤ e ∧ e < xs.length) → chkP xs = 2 := fun h => chk2 fun h2 => h (h2 e (List.mem_of_getElem? he))
    refine ⟨fun h1 => ?_, fun h1 => ?_⟩
    · exact endq rfl (by rw [hbad (by omega)])
    refine ⟨⟨⟨by omega, by omega⟩, len_map_le (by omega)⟩, ?_⟩
    refine ⟨_, ld (at_map he) (by show _ * 1 = i; omega), ?_⟩
    refine ⟨fun h2 => ?_, fun h2 => ?_⟩
    · exact endq rfl (by rw [hbad (by omega)])
    refine ⟨⟨by omega, by omega⟩, ?_⟩
    exact ⟨_, by omega, ci ⟨i + 1, _, rfl, ⟨rfl, rfl, rfl, rfl, trivial⟩, rfl, by omega, ⟨fun x hx => by
      rw [take_snoc he] at hx
      rcases List.mem_append.1 hx with hx | hx
      · exact hn.h x hx
      · rw [List.mem_singleton.1 hx]; omega⟩⟩⟩
  · have hin : InR xs := inr_to (by have := hn.h; have e : i = xs.length := by omega
                                    rwa [e] at this)
    refine ⟨fun m s => ∃ (i : Nat) (T : List PV), s = ⟨T, [], 0⟩ ∧ Gt T 47 [(0, pIs xs), (1, pn xs.length), (6, pn i)] ∧ m = xs.length - i ∧ i ≤ xs.length ∧ Hid ((xs.take i).Nodup), ⟨_, ci ⟨0, _, rfl, ⟨rfl, rfl, rfl, rfl, trivial⟩, rfl, Nat.zero_le _, ⟨by simp⟩⟩⟩, ?_⟩
    rintro _ s ⟨i, T, rfl, hT, rfl, hi, hn⟩
    obtain ⟨J, rfl⟩ := gt_open hT
    clear hT
    refine ⟨fun hlt => ?_, fun hge => ?_⟩
    · obtain ⟨e, he⟩ := xs_get (xs := xs) (i := i) (by omega)
      refine ⟨fun m s => ∃ (k : Nat) (T : List PV), s = ⟨T, [], 0⟩ ∧ Gt T 47 [(0, pIs xs), (1, pn xs.length), (6, pn i), (7, pn k)] ∧ m = i - k ∧ k ≤ i ∧ Hid (e ∉ xs.take k), ⟨_, ci ⟨0, _, rfl, ⟨rfl, rfl, rfl, rfl, rfl, trivial⟩, rfl, Nat.zero_le _, ⟨by simp⟩⟩⟩, ?_⟩
      rintro _ s ⟨k, T, rfl, hT, rfl, hk, hm⟩
      obtain ⟨J, rfl⟩ := gt_open hT
      clear hT
      refine ⟨fun hlt2 => ?_, fun hge2 => ?_⟩
      · obtain ⟨e2, he2⟩ := xs_get (xs := xs) (i := k) (by omega)
        refine ⟨by kernel_rfl, ?_⟩
        refine ⟨⟨⟨by omega, by omega⟩, len_map_le (by omega)⟩, ?_⟩
        refine ⟨_, ld (at_map he) (by show _ * 1 = i; omega), rfl, ?_⟩
        refine ⟨⟨⟨by omega, by omega⟩, len_map_le (by omega)⟩, ?_⟩
        refine ⟨_, ld (at_map he2) (by show _ * 1 = k; omega), rfl, ?_⟩
        refine ⟨fun heq => ?_, fun hne => ?_⟩
        · refine endq rfl ?_
          rw [chk3 hin fun hnd => ?_]
          rw [← heq, ← he] at he2
          have := (List.getElem?_inj (by omega) hnd).1 he2
          omega
        · refine ⟨⟨by omega, by omega⟩, ?_⟩
          exact ⟨_, by omega, ci ⟨k + 1, _, rfl, ⟨rfl, rfl, rfl, rfl, rfl, trivial⟩, rfl, by omega, ⟨fun hx => by
            rw [take_snoc he2] at hx
            rcases List.mem_append.1 hx with hx | hx
            · exact hm.h hx
            · exact hne (List.mem_singleton.1 hx)⟩⟩⟩
      · have hki : k = i := by omega
        subst hki
        refine ⟨⟨by omega, by omega⟩, ?_⟩
        refine ⟨_, by omega, ci ⟨k + 1, _, rfl, ⟨rfl, rfl, rfl, rfl, trivial⟩, rfl, by omega, ⟨?_⟩⟩⟩
        rw [take_snoc he]
        exact List.nodup_append.2 ⟨hn.h, by simp, fun a ha b hb => by rw [List.mem_singleton.1 hb]; rintro rfl; exact hm.h ha⟩
    · refine endq rfl ?_
      have := hn.h
      rw [List.take_of_length_le (by omega)] at this
      rw [chk0 hin this]
theorem fn29 : ctx.fn 29 = some c29 := by kernel_rfl
theorem rcheck_ct (hS : OldO S) {r u : List Int} (l1 : r.length ≤ 1000000) (l2 : u.length ≤ 1000000) : Ct (ctx.plus S) 29 [pO r u] 1 fun v => v = pn (chkO r u) := by
  refine ct_of (hS 29 (by decide)) fn29 ?_
  refine ⟨by omega, ?_⟩
  refine ⟨_, rfl, ?_⟩
  refine ⟨_, rfl, ?_⟩
  refine ⟨fun h1 => ?_, fun h1 => ?_⟩
  · exact endq rfl (by rw [chkO10 (.inl (by omega))])
  refine ⟨fun h2 => ?_, fun h2 => ?_⟩
  · exact endq rfl (by rw [chkO10 (.inr (by omega))])
  have h12 : ¬ (u.length ≠ r.length ∨ r.length = 0) := by omega
  refine ⟨fun h3 => ?_, fun h3 => ?_⟩
  · exact endq rfl (by rw [chkO8 h12 (by omega)])
  refine ⟨_, rfl, ?_⟩
  refine callq rfl (checkList_ct S hS l1) (by omega) ?_
  rintro _ rfl
  refine ⟨fun h4 => ?_, fun h4 => ?_⟩
  · exact endq rfl (by rw [chkOr h12 (by omega) h4])
  refine ⟨_, rfl, ?_⟩
  have hc : Ct (ctx.plus S) 85 [pIs u, pn r.length] 0 fun v => v = pn (chkP u) := by
    rw [show (r.length : Int) = u.length by omega]
    exact checkList_ct S hS l2
  refine callq rfl hc (by omega) ?_
  rintro _ rfl
  exact endq rfl (by rw [chkOu h12 (by omega) h4])
end Go.PI
/- PERMUTATIONS: inverses, products, cycles, of the program and of the reference. -/
open Go.Proofs
namespace Go.PI
open IM
set_option maxRecDepth 10000
set_option maxHeartbeats 4000000
variable (S : FuncId → Option (List AV → Heap → Option (AV × Heap)))
theorem fz_ints {i n : Nat} {σ : List StB} {xs : List Int} (h : contOf σ i = some (3, xs.map pn)) (hl : xs.length = n) : Fz (.own i 0 n n 1) σ (pIs xs) (σ.set i (.frz 3 (xs.map pn))) := by
  subst hl
  exact fz_own h (by simp) (Nat.le_refl _) (by rw [List.take_of_length_le (by simp)])
theorem int_zero {n : Nat} : (List.replicate n [pn 0]).flatten = (List.replicate n (0 : Int)).map pn := by
  rw [List.flatten_replicate_singleton, List.map_replicate]
theorem int_put {xs : List Int} {o j : Nat} {y : Int} (ho : o = j) (hj : j < xs.length) : pspl (xs.map pn) o [pn y] = (xs.set j y).map pn := by
  rw [spl_at ho (by rw [List.length_map]; exact hj), List.map_set]
theorem fn224 : ctx.fn 224 = some c224 := by kernel_rfl
theorem inverse_ct (hS : OldO S) {n : Nat} {f g : Nat → Nat} (h : IsP n f g) (hn : n ≤ 1000000) : Ct (ctx.plus S) 224 [pIs (PL n f)] 1 fun r => r = pIs (PL n g) := by
  obtain ⟨xs, hx⟩ : ∃ xs, xs = PL n f := ⟨_, rfl⟩
  have hl : xs.length = n := by rw [hx, PL_len]
  have hg : ∀ i, i < n → xs[i]? = some (f i : Int) := fun i hi => by rw [hx, PL_get hi]
  rw [← hx]
  clear hx
  refine ct_of (hS 224 (by decide)) fn224 ?_
  refine ⟨by omega, ⟨by omega, by omega, by omega⟩, _, int_zero, ?_⟩
  refine ⟨fun m s => ∃ (i : Nat) (ys : List Int) (T : List PV), s = ⟨T, [.live 3 (ys.map pn)], 1⟩ ∧ Gt T 22 [(3, .own 0 0 xs.length xs.length 1), (9, pIs xs), (10, pn xs.length), (11, pn i)] ∧ m = n - i ∧ i ≤ n ∧ Hid (ys.length = n ∧ ∀ j : Nat, j < i → ys[f j]? = some (j : Int)), ⟨_, ci ⟨0, _, _, rfl, ⟨rfl, rfl, rfl, rfl, rfl, trivial⟩, rfl, Nat.zero_le _, ⟨by simp [hl], fun j hj => by omega⟩⟩⟩, ?_⟩
  rintro _ s ⟨i, ys, T, rfl, hT, rfl, hi, hy⟩
  obtain ⟨J, rfl⟩ := gt_open hT
  clear hT
  refine ⟨fun hlt => ?_, fun hge => ?_⟩
  · have he := hg i (by omega)
    have hfi := h.lt i (by omega)
    have hyl := hy.h.1
    refine ⟨⟨⟨by omega, by omega⟩, len_map_le (by omega)⟩, ?_⟩
    refine ⟨_, ld (at_map he) (by show _ * 1 = i; omega), ?_⟩
    refine ⟨⟨by omega, by omega⟩, ?_⟩
    refine ⟨_, _, rfl, ⟨rfl, by rw [List.length_map]; show 0 + f i * 1 + 1 ≤ _; omega, rfl⟩, _, int_put (j := f i) (by show 0 + f i * 1 = f i; omega) (by omega), _, rfl, ?_⟩
    refine ⟨⟨by omega, by omega⟩, ?_⟩
    refine ⟨_, by omega, ci ⟨i + 1, _, _, rfl, ⟨rfl, rfl, rfl, rfl, rfl, trivial⟩, rfl, by omega, ⟨by simp [hyl], fun j hj => ?_⟩⟩⟩
    by_cases hji : j = i
    · subst hji
      rw [List.getElem?_set_self (by omega)]
    · rw [List.getElem?_set_ne (fun e => hji (h.inj (by omega) (by omega) e.symm))]
      exact hy.h.2 j (by omega)
  · refine endf (fz_ints (xs := ys) rfl (by rw [hy.h.1, hl])) ?_
    rw [PL_ext (f := g) hy.h.1 fun j hj => ?_]
    have := hy.h.2 (g j) (by have := h.glt j hj; omega)
    rwa [h.fg j hj] at this
end Go.PI
/- PERMUTATIONS: what the reference makes of them; cycles. -/
open Go.Proofs
namespace Go.PI
open IM
set_option maxRecDepth 10000
set_option maxHeartbeats 4000000
variable (S : FuncId → Option (List AV → Heap → Option (AV × Heap)))
def NotB (xs : List Int) (x : Int) (i : Nat) : Prop := ∀ j, j < i → xs[j]? ≠ some x
theorem notB_next {xs : List Int} {x e : Int} {i : Nat} (h : NotB xs x i) (he : xs[i]? = some e) (hne : e ≠ x) : NotB xs x (i + 1) := fun j hj => by
  by_cases hji : j = i
  · subst hji; rw [he]; intro h2; cases h2; exact hne rfl
  · exact h j (by omega)
theorem notB_end {xs : List Int} {x : Int} {i : Nat} (h : NotB xs x i) (hi : xs.length ≤ i) : x ∉ xs := fun hm => by
  obtain ⟨j, hj⟩ := List.getElem?_of_mem hm
  have := (List.getElem?_eq_some_iff.1 hj).1
  exact h j (by omega) hj
def idx (xs : List Int) (x : Int) : Int := if x ∈ xs then (xs.idxOf x : Nat) else -1
theorem idx_at {xs : List Int} {x : Int} {i : Nat} (h : NotB xs x i) (he : xs[i]? = some x) : idx xs x = i := by
  have hm := List.mem_of_getElem? he
  have hl : xs.idxOf x < xs.length := List.idxOf_lt_length_of_mem hm
  have h1 : xs[xs.idxOf x]? = some x := by rw [List.getElem?_eq_getElem hl, List.getElem_idxOf]
  have h2 : ¬ xs.idxOf x < i := fun hlt => h _ hlt h1
  have h3 : xs.idxOf x ≤ i := by
    have hi := (List.getElem?_eq_some_iff.1 he)
    refine Nat.le_of_not_lt fun hlt => ?_
    have := List.not_of_lt_findIdx hlt
    rw [hi.2] at this
    simp at this
  unfold idx
  rw [if_pos hm]
  omega
theorem fn109 : ctx.fn 109 = some c109 := by kernel_rfl
theorem at_ct (hS : OldO S) {xs : List Int} {x : Int} (hl : xs.length ≤ 1000000) : Ct (ctx.plus S) 109 [pIs xs, pn x] 0 fun r => r = pn (idx xs x) := by
  refine ct_of (hS 109 (by decide)) fn109 ?_
  refine ⟨fun m s => ∃ (i : Nat) (T : List PV), s = ⟨T, [], 0⟩ ∧ Gt T 19 [(0, pIs xs), (1, pn x), (5, pn i)] ∧ m = xs.length - i ∧ i ≤ xs.length ∧ Hid (NotB xs x i), ⟨_, ci ⟨0, _, rfl, ⟨rfl, rfl, rfl, rfl, trivial⟩, rfl, Nat.zero_le _, ⟨fun j hj => by omega⟩⟩⟩, ?_⟩
  rintro _ s ⟨i, T, rfl, hT, rfl, hi, hn⟩
  obtain ⟨J, rfl⟩ := gt_open hT
  clear hT
  refine ⟨fun hlt => ?_, fun hge => ?_⟩
  · obtain ⟨e, he⟩ := xs_get (xs := xs) (i := i) (by omega)
    refine ⟨⟨⟨by omega, by omega⟩, len_map_le (by omega)⟩, ?_⟩
    refine ⟨_, ld (at_map he) (by show _ * 1 = i; omega), ?_⟩
    refine ⟨fun heq => ?_, fun hne => ?_⟩
    · exact endq rfl (by rw [idx_at hn.h (by rw [he]; congr 1)]; rfl)
    · refine ⟨⟨by omega, by omega⟩, ?_⟩
      exact ⟨_, by omega, ci ⟨i + 1, _, rfl, ⟨rfl, rfl, rfl, rfl, trivial⟩, rfl, by omega, ⟨notB_next hn.h he hne⟩⟩⟩
  · exact endq rfl (by unfold idx; rw [if_neg (notB_end hn.h (by omega))])
theorem idx_PL {n : Nat} {f g : Nat → Nat} (h : IsP n f g) {i : Nat} (hi : i < n) : idx (PL n f) i = g i := by
  refine idx_at (fun j hj e => ?_) (by rw [PL_get (h.glt i hi), h.fg i hi])
  have hg := h.glt i hi
  rw [PL_get (by omega)] at e
  have : f j = i := by simp only [Option.some.injEq] at e; omega
  have := h.gf j (by omega)
  rw [‹f j = i›] at this
  omega
theorem PL_succ {n : Nat} {f : Nat → Nat} : PL (n + 1) f = PL n f ++ [(f n : Int)] := by simp [PL, List.range_succ]
theorem fn92 : ctx.fn 92 = some c92 := by kernel_rfl
theorem rinverse_ct (hS : OldO S) {n : Nat} {f g : Nat → Nat} (h : IsP n f g) (hn : n ≤ 1000) : Ct (ctx.plus S) 92 [pIs (PL n f)] (2 * n) fun r => r = pIs (PL n g) := by
  have hl : (PL n f).length = n := PL_len
  refine ct_of (hS 92 (by decide)) fn92 ?_
  refine ⟨fun m s => ∃ (i : Nat) (v : PV) (σ : List StB) (T : List PV), s = ⟨T, σ, 2 * i⟩ ∧ Gt T 18 [(0, pIs (PL n f)), (3, v), (4, pn i)] ∧ m = n - i ∧ i ≤ n ∧ Hid (Gr pn 3 v σ (PL i g)), ⟨_, ci ⟨0, .nils, [], _, rfl, ⟨rfl, rfl, rfl, rfl, trivial⟩, rfl, Nat.zero_le _, ⟨.nil⟩⟩⟩, ?_⟩
  rintro _ s ⟨i, v, σ, T, rfl, hT, rfl, hi, hg⟩
  obtain ⟨J, rfl⟩ := gt_open hT
  clear hT
  refine ⟨fun hlt => ?_, fun hge => ?_⟩
  · refine callq rfl (at_ct S hS (by omega)) (by omega) ?_
    rintro _ rfl
    rw [idx_PL h (by omega)]
    refine ⟨by omega, part1 fzI ⟨[pn (g i)], rfl, ?_⟩⟩
    refine appG (f := pn) (e := 3) (y := (g i : Int)) hg.h.push push_cont rfl rfl rfl rfl (by kernel_rfl) rfl rfl (by rw [PL_len]; omega) (by omega) fun v' σ' hv' _ _ => ?_
    refine ⟨⟨by omega, by omega⟩, ?_⟩
    exact ⟨_, by omega, ci ⟨i + 1, v', σ', _, rfl, ⟨rfl, rfl, rfl, rfl, trivial⟩, rfl, by omega, ⟨PL_succ ▸ hv'⟩⟩⟩
  · have hin : i = n := by omega
    subst hin
    obtain ⟨σ', hf⟩ := hg.h.fz
    exact endf hf rfl
theorem fn135 : ctx.fn 135 = some c135 := by kernel_rfl
theorem after_ct (hS : OldO S) {n : Nat} {f g : Nat → Nat} (h : ∀ i, i < n → f i < n) (hn : n ≤ 1000) : Ct (ctx.plus S) 135 [pIs (PL n f), pIs (PL n g)] (2 * n) fun r => r = pIs (PL n fun i => g (f i)) := by
  have hl : (PL n f).length = n := PL_len
  have hl2 : (PL n g).length = n := PL_len
  refine ct_of (hS 135 (by decide)) fn135 ?_
  refine ⟨fun m s => ∃ (i : Nat) (v : PV) (σ : List StB) (T : List PV), s = ⟨T, σ, 2 * i⟩ ∧ Gt T 24 [(0, pIs (PL n f)), (1, pIs (PL n g)), (5, v), (6, pn i)] ∧ m = n - i ∧ i ≤ n ∧ Hid (Gr pn 3 v σ (PL i fun i => g (f i))), ⟨_, ci ⟨0, .nils, [], _, rfl, ⟨rfl, rfl, rfl, rfl, rfl, trivial⟩, rfl, Nat.zero_le _, ⟨.nil⟩⟩⟩, ?_⟩
  rintro _ s ⟨i, v, σ, T, rfl, hT, rfl, hi, hg⟩
  obtain ⟨J, rfl⟩ := gt_open hT
  clear hT
  refine ⟨fun hlt => ?_, fun hge => ?_⟩
  · have hfi := h i (by omega)
    refine ⟨⟨⟨by omega, by omega⟩, len_map_le (by omega)⟩, ?_⟩
    refine ⟨_, ld (at_map (PL_get (show i < n by omega))) (by show _ * 1 = i; omega), ?_⟩
    refine ⟨⟨⟨by omega, by omega⟩, len_map_le (by omega)⟩, ?_⟩
    refine ⟨_, ld (at_map (PL_get hfi)) (by show _ * 1 = f i; omega), ?_⟩
    refine ⟨by omega, part1 fzI ⟨[pn (g (f i))], rfl, ?_⟩⟩
    refine appG (f := pn) (e := 3) (y := (g (f i) : Int)) hg.h.push push_cont rfl rfl rfl rfl (by kernel_rfl) rfl rfl (by rw [PL_len]; omega) (by omega) fun v' σ' hv' _ _ => ?_
    refine ⟨⟨by omega, by omega⟩, ?_⟩
    exact ⟨_, by omega, ci ⟨i + 1, v', σ', _, rfl, ⟨rfl, rfl, rfl, rfl, rfl, trivial⟩, rfl, by omega, ⟨PL_succ (f := fun i => g (f i)) ▸ hv'⟩⟩⟩
  · have hin : i = n := by omega
    subst hin
    obtain ⟨σ', hf⟩ := hg.h.fz
    exact endf hf rfl
def cycTo (f : Nat → Nat) (x k : Nat) : List Int := (List.range k).map fun j => ((it f j x : Nat) : Int)
theorem cycTo_succ {f : Nat → Nat} {x k : Nat} : cycTo f x (k + 1) = cycTo f x k ++ [((it f k x : Nat) : Int)] := by simp [cycTo, List.range_succ]
theorem cycTo_len {f : Nat → Nat} {x k : Nat} : (cycTo f x k).length = k := by simp [cycTo]
theorem fn259 : ctx.fn 259 = some c259 := by kernel_rfl
theorem cycle_ct (hS : OldO S) {n x : Nat} {f g : Nat → Nat} (h : IsP n f g) (hn : n ≤ 1000) (hx : x < n) : Ct (ctx.plus S) 259 [pIs (PL n f), pn x] (2 * n) fun r => r = pIs (cyc f x) := by
  have hl : (PL n f).length = n := PL_len
  obtain ⟨o1, o2, o3, o4⟩ := ordr_spec h hx
  have hfx := h.lt x hx
  refine ct_of (hS 259 (by decide)) fn259 ?_
  refine ⟨by omega, part1 fzI ⟨[pn x], rfl, ?_⟩⟩
  refine ⟨⟨⟨by omega, by omega⟩, len_map_le (by omega)⟩, ?_⟩
  refine ⟨_, ld (at_map (PL_get hx)) (by show _ * 1 = x; omega), ?_⟩
  refine ⟨fun m s => ∃ (k b : Nat) (v : PV) (σ : List StB) (T : List PV), s = ⟨T, σ, b⟩ ∧ Gt T 25 [(0, pIs (PL n f)), (1, pn x), (5, v), (6, pn (it f k x : Nat))] ∧ m = ordr f x - k ∧ 1 ≤ k ∧ k ≤ ordr f x ∧ b + 1 ≤ 2 * k ∧ Hid (Gr pn 3 v σ (cycTo f x k)), ⟨_, ci ⟨1, 1, .own 0 0 1 1 1, [.live 3 [pn x]], _, rfl, ⟨rfl, rfl, rfl, rfl, rfl, trivial⟩, rfl, Nat.le_refl _, o1, Nat.le_refl _, ⟨.inr (.inl ⟨0, 3, rfl, rfl⟩)⟩⟩⟩, ?_⟩
  rintro _ s ⟨k, b, v, σ, T, rfl, hT, rfl, hk, hko, hb, hg⟩
  obtain ⟨J, rfl⟩ := gt_open hT
  clear hT
  have hit := it_lt h hx k
  refine ⟨fun hne => ?_, fun heq => ?_⟩
  · have hlt : k < ordr f x := by
      rcases Nat.lt_or_ge k (ordr f x) with a | a
      · exact a
      · have : k = ordr f x := by omega
        rw [this, o2] at hne
        exact absurd rfl hne
    refine ⟨by omega, part1 fzI ⟨[pn (it f k x : Nat)], rfl, ?_⟩⟩
    refine appG (f := pn) (e := 3) (y := ((it f k x : Nat) : Int)) hg.h.push push_cont rfl rfl rfl rfl (by kernel_rfl) rfl rfl (by rw [cycTo_len]; omega) (by omega) fun v' σ' hv' _ _ => ?_
    refine ⟨⟨⟨by omega, by omega⟩, len_map_le (by omega)⟩, ?_⟩
    refine ⟨_, ld (at_map (PL_get hit)) (by show _ * 1 = it f k x; omega), ?_⟩
    exact ⟨_, by omega, ci ⟨k + 1, _, v', σ', _, rfl, ⟨rfl, rfl, rfl, rfl, rfl, trivial⟩, rfl, by omega, by omega, by omega, ⟨cycTo_succ ▸ hv'⟩⟩⟩
  · have hko2 : k = ordr f x := by
      rcases Nat.lt_or_ge k (ordr f x) with a | a
      · exact absurd (by omega) (o4 k (by omega) a)
      · omega
    subst hko2
    obtain ⟨σ', hf⟩ := hg.h.fz
    exact endf hf rfl
end Go.PI
