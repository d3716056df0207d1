/- Own work of the verifier: OgA OgB OgC OgD OgE OgF OgG. -/
import Derived.Test.YtefajaiioljjoaaOwAZ
import Derived.Test.YtefajaiioljjoaaOwAT
set_option linter.all false
set_option exponentiation.threshold 3000
set_option linter.deprecated false
/- LISTS OF INTEGERS: what is asked of permutations. -/
open Go.Proofs
namespace Go.PI
open IM
set_option maxRecDepth 10000
set_option maxHeartbeats 4000000
variable (S : FuncId → Option (List AV → Heap → Option (AV × Heap)))
theorem xs_get {xs : List Int} {i : Nat} (h : i < xs.length) : ∃ e, xs[i]? = some e := ⟨xs[i], List.getElem?_eq_getElem _⟩
theorem fz_fnc1 {f i : Nat} {ty : TypeId} {cs : List PV} {σ : List StB} (h : contOf σ i = some (ty, cs)) : Fz (.fnc f [.optr i 0]) σ (.fnc f [.lptr cs]) (σ.set i (.frz ty cs)) := fun _ hK => ⟨ty, cs, h, Nat.zero_le _, hK⟩
theorem cloA_of {p : PV} (h : clo p = true) : cloA p = true := by cases p <;> first | exact h | cases h
theorem cloAs_of : ∀ {ps : List PV}, clos ps = true → cloAs ps = true
  | [], _ => rfl
  | p :: ps, h => by
    simp only [clos, Bool.and_eq_true] at h
    simp only [cloAs, cloA_of h.1, cloAs_of h.2, Bool.and_self]
theorem cloAs_cons {p : PV} {ps : List PV} (h1 : cloA p = true) (h : clos ps = true) : cloAs (p :: ps) = true := by simp only [cloAs, h1, cloAs_of h, Bool.and_self]
theorem fn65 : ctx.fn 65 = some c65 := by kernel_rfl
theorem fn111 : ctx.fn 111 = some c111 := by kernel_rfl
theorem fn136 : ctx.fn 136 = some c136 := by kernel_rfl
theorem fn110 : ctx.fn 110 = some c110 := by kernel_rfl
theorem fn67 : ctx.fn 67 = some c67 := by kernel_rfl
theorem within_ct (hS : OldO S) {n a b : Int} : Ct (ctx.plus S) 65 [pn n, pn a, pn b] 0 fun r => r = .bool (decide (a ≤ n ∧ n ≤ b)) := by
  refine ct_of (hS 65 (by decide)) fn65 ?_
  refine ⟨fun h1 => ?_, fun h1 => ?_⟩
  · refine ⟨fun h2 => ?_, fun h2 => ?_⟩
    · exact endq rfl (by rw [decide_eq_true ⟨by omega, by omega⟩])
    · exact endq rfl (by rw [decide_eq_false (by omega)])
  · exact endq rfl (by rw [decide_eq_false (by omega)])
theorem outside_ct (hS : OldO S) {xs : List Int} {x : Int} (hl : xs.length ≤ 1000000) : Ct (ctx.plus S) 111 [pn x, .lptr [pIs xs]] 0 fun r => r = .bool (!decide (0 ≤ x ∧ x < xs.length)) := by
  refine ct_of (hS 111 (by decide)) fn111 ?_
  refine ⟨_, rfl, ?_⟩
  refine ⟨⟨by omega, by omega⟩, ?_⟩
  refine callq rfl (within_ct S hS) (by omega) ?_
  rintro _ rfl
  by_cases h : 0 ≤ x ∧ x < xs.length
  · rw [decide_eq_true (show 0 ≤ x ∧ x ≤ xs.length - 1 by omega), decide_eq_true h]
    exact endq rfl rfl
  · rw [decide_eq_false (show ¬ (0 ≤ x ∧ x ≤ xs.length - 1) by omega), decide_eq_false h]
    exact endq rfl rfl
theorem indexFunc_ct (hS : OldO S) {xs : List Int} {g d : Nat} {cs : List PV} {P : Int → Bool} (hc : clos cs = true) (hl : xs.length ≤ 1000000) (hg : ∀ x ∈ xs, Ct (ctx.plus S) g (pn x :: cs) 0 fun r => r = .bool (P x)) :
    Ct (ctx.plus S) 136 [pIs xs, .fnc g cs] 0 fun r => ∃ v : Int, r = pn v ∧ (0 ≤ v ↔ ∃ x ∈ xs, P x = true) := by
  refine ct_of (hS 136 (by decide)) fn136 ?_
  refine ⟨fun m s => ∃ (i : Nat) (T : List PV), s = ⟨T, [], 0⟩ ∧ Gt T 19 [(0, pIs xs), (1, .fnc g cs), (7, pn xs.length), (8, pn i)] ∧ m = xs.length - i ∧ i ≤ xs.length ∧ Hid (∀ x ∈ xs.take i, P x = false), ⟨_, ci ⟨0, _, rfl, ⟨rfl, rfl, rfl, rfl, rfl, trivial⟩, rfl, Nat.zero_le _, ⟨fun x hx => by simp at hx⟩⟩⟩, ?_⟩
  rintro _ s ⟨i, T, rfl, hT, rfl, hi, hn⟩
  obtain ⟨J, rfl⟩ := gt_open hT
  clear hT
  refine ⟨fun hlt => ?_, fun hge => ?_⟩
  · obtain ⟨e, he⟩ := xs_get (xs := xs) (i := i) (by omega)
    have hm := List.mem_of_getElem? he
    refine ⟨⟨⟨by omega, by omega⟩, len_map_le (by omega)⟩, ?_⟩
    refine ⟨_, ld (at_map he) (by show _ * 1 = i; omega), ?_⟩
    refine callq (ps := pn e :: cs) (cloAs_cons rfl hc) (hg e hm) (by omega) ?_
    rintro _ rfl
    cases hp : P e with
    | true => exact endq rfl ⟨i, rfl, fun _ => ⟨e, hm, hp⟩, fun _ => by omega⟩
    | false =>
      refine ⟨⟨by omega, by omega⟩, ?_⟩
      exact ⟨_, by omega, ci ⟨i + 1, _, rfl, ⟨rfl, rfl, rfl, rfl, rfl, trivial⟩, rfl, by omega, ⟨fun x hx => by
        rw [take_snoc he] at hx
        rcases List.mem_append.1 hx with hx | hx
        · exact hn.h x hx
        · rw [List.mem_singleton.1 hx]; exact hp⟩⟩⟩
  · refine endq rfl ⟨-1, rfl, fun h => by omega, fun ⟨x, hx, hp⟩ => ?_⟩
    have := hn.h x (by rw [List.take_of_length_le (by omega)]; exact hx)
    rw [hp] at this
    cases this
theorem containsFunc_ct (hS : OldO S) {xs : List Int} {g d : Nat} {cs : List PV} {P : Int → Bool} (hc : clos cs = true) (hl : xs.length ≤ 1000000) (hg : ∀ x ∈ xs, Ct (ctx.plus S) g (pn x :: cs) 0 fun r => r = .bool (P x)) :
    Ct (ctx.plus S) 110 [pIs xs, .fnc g cs] 0 fun r => ((∃ x ∈ xs, P x = true) ∧ r = .bool true) ∨ ((∀ x ∈ xs, P x = false) ∧ r = .bool false) := by
  refine ct_of (hS 110 (by decide)) fn110 ?_
  refine callq (ps := [pIs xs, .fnc g cs]) (by simp only [cloAs, cloA, hc]; rfl) (indexFunc_ct S hS hc hl hg (d := d)) (by omega) ?_
  rintro _ ⟨v, rfl, hv⟩
  refine ⟨fun h => ?_, fun h => ?_⟩
  · exact endq rfl (.inl ⟨hv.1 h, rfl⟩)
  · exact endq rfl (.inr ⟨fun x hx => by
      cases hp : P x with
      | false => rfl
      | true => exact absurd (hv.2 ⟨x, hx, hp⟩) (by omega), rfl⟩)
def SeenF (xs : List Int) (i : Nat) (fl : List Bool) : Prop := fl.length = xs.length ∧ (xs.take i).Nodup ∧ ∀ j : Nat, fl[j]? = some true ↔ (j : Int) ∈ xs.take i ∧ j < xs.length
theorem seen_next {xs : List Int} {i j : Nat} {fl : List Bool} (h : SeenF xs i fl) (he : xs[i]? = some (j : Int)) (hj : j < xs.length) (hf : fl[j]? = some false) : SeenF xs (i + 1) (fl.set j true) := by
  obtain ⟨h1, h2, h3⟩ := h
  have hni : (j : Int) ∉ xs.take i := fun hm => by
    have := (h3 j).2 ⟨hm, hj⟩
    rw [hf] at this; cases this
  refine ⟨by simp [h1], ?_, fun k => ?_⟩
  · rw [take_snoc he]
    exact List.nodup_append.2 ⟨h2, by simp, fun a ha b hb => by rw [List.mem_singleton.1 hb]; rintro rfl; exact hni ha⟩
  · rw [take_snoc he, List.mem_append]
    by_cases hk : k = j
    · subst hk
      rw [List.getElem?_set_self (by omega)]
      simp [hj]
    · rw [List.getElem?_set_ne (Ne.symm hk), h3 k]
      constructor
      · rintro ⟨a, b⟩; exact ⟨.inl a, b⟩
      · rintro ⟨a | a, b⟩
        · exact ⟨a, b⟩
        · have := List.mem_singleton.1 a
          omega
theorem flg_zero {n : Nat} : (List.replicate n [PV.bool false]).flatten = (List.replicate n false).map PV.bool := by
  rw [List.flatten_replicate_singleton, List.map_replicate]
theorem flg_put {fl : List Bool} {o j : Nat} (ho : o = j) (hj : j < fl.length) : pspl (fl.map PV.bool) o [.bool true] = (fl.set j true).map PV.bool := by
  rw [spl_at ho (by rw [List.length_map]; exact hj), List.map_set]
theorem checkP_ct (hS : OldO S) {xs : List Int} (hl : xs.length ≤ 1000000) : Ct (ctx.plus S) 67 [pIs xs] 2 fun r => r = pn (chkP xs) := by
  refine ct_of (hS 67 (by decide)) fn67 ?_
  refine ⟨by omega, ?_⟩
  refine ⟨_, rfl, ?_⟩
  refine cal2 (fzL) (fz_fnc1 rfl) (containsFunc_ct S hS (d := 0) (P := fun x => !decide (0 ≤ x ∧ x < xs.length)) rfl hl fun x _ => outside_ct S hS hl) (by omega) ?_
  rintro _ (⟨⟨x, hx, hp⟩, rfl⟩ | ⟨hall, rfl⟩)
  · exact endq rfl (by rw [chk2 fun h => by have := h x hx; simp [this] at hp])
  have hin : InR xs := fun x hx => by
    have := hall x hx
    simpa using this
  refine ⟨_, rfl, ?_⟩
  refine ⟨by omega, ⟨by omega, by omega, by omega⟩, _, flg_zero, ?_⟩
  refine ⟨_, rfl, ?_⟩
  have hn0 : SeenF xs 0 (List.replicate xs.length false) := ⟨by simp, by simp, fun j => by
    simp only [List.take_zero, List.not_mem_nil, false_and, iff_false]
    rw [List.getElem?_replicate]
    split <;> simp⟩
  refine ⟨fun m s => ∃ (i : Nat) (fl : List Bool) (T : List PV), s = ⟨T, [.frz 22 [pIs xs], .live 4 (fl.map PV.bool)], 2⟩ ∧ Gt T 26 [(1, .optr 0 0), (3, .own 1 0 xs.length xs.length 1), (12, pIs xs), (13, pn xs.length), (14, pn i)] ∧ m = xs.length - i ∧ i ≤ xs.length ∧ Hid (SeenF xs i fl), ⟨_, ci ⟨0, _, _, rfl, ⟨rfl, rfl, rfl, rfl, rfl, rfl, trivial⟩, rfl, Nat.zero_le _, ⟨hn0⟩⟩⟩, ?_⟩
  rintro _ s ⟨i, fl, T, rfl, hT, rfl, hi, hn⟩
  obtain ⟨J, rfl⟩ := gt_open hT
  clear hT
  refine ⟨fun hlt => ?_, fun hge => ?_⟩
  · obtain ⟨e, he⟩ := xs_get (xs := xs) (i := i) (by omega)
    have hm := hin e (List.mem_of_getElem? he)
    obtain ⟨j, rfl⟩ : ∃ j : Nat, e = j := ⟨e.toNat, by omega⟩
    have hj : j < xs.length := by omega
    have hfl : fl.length = xs.length := hn.h.1
    refine ⟨⟨⟨by omega, by omega⟩, len_map_le (by omega)⟩, ?_⟩
    refine ⟨_, ld (at_map he) (by show _ * 1 = i; omega), ?_⟩
    refine ⟨⟨by omega, by omega⟩, ?_⟩
    obtain ⟨b, hb⟩ : ∃ b, fl[j]? = some b := ⟨fl[j]'(by omega), List.getElem?_eq_getElem _⟩
    refine ⟨_, load_k rfl rfl rfl (at_map hb) (by show 0 + _ * 1 = j; omega), ?_⟩
    cases b with
    | true =>
      refine endq rfl ?_
      rw [chk3 hin fun hnd => ?_]
      have h1 := ((hn.h.2.2 j).1 hb).1
      obtain ⟨q, hq⟩ := List.getElem?_of_mem h1
      have hqi : q < i := by
        have := (List.getElem?_eq_some_iff.1 hq).1
        rw [List.length_take] at this; omega
      rw [List.getElem?_take, if_pos hqi] at hq
      rw [← he] at hq
      have := (List.getElem?_inj (by omega) hnd).1 hq
      omega
    | false =>
      refine ⟨⟨by omega, by omega⟩, ?_⟩
      refine ⟨_, _, rfl, ⟨rfl, by rw [List.length_map]; show 0 + j * 1 + 1 ≤ _; omega, rfl⟩, _, flg_put (by show 0 + j * 1 = j; omega) (by omega), _, rfl, ?_⟩
      refine ⟨⟨by omega, by omega⟩, ?_⟩
      exact ⟨_, by omega, ci ⟨i + 1, _, _, rfl, ⟨rfl, rfl, rfl, rfl, rfl, rfl, trivial⟩, rfl, by omega, ⟨seen_next hn.h he hj hb⟩⟩⟩
  · refine endq rfl ?_
    have := hn.h.2.1
    rw [List.take_of_length_le (by omega)] at this
    rw [chk0 hin this]
end Go.PI
/- ORIGAMIS: whether they are valid, of the program and of the reference. -/
open Go.Proofs
namespace Go.PI
open IM
set_option maxRecDepth 10000
set_option maxHeartbeats 4000000
variable (S : FuncId → Option (List AV → Heap → Option (AV × Heap)))
def pO (r u : List Int) : PV := .agg [pIs r, pIs u]
open Classical in
noncomputable def chkO (r u : List Int) : Int := if u.length ≠ r.length ∨ r.length = 0 then 10 else if 60 < r.length then 8 else if chkP r ≠ 0 then chkP r else chkP u
theorem chkO10 {r u : List Int} (h : u.length ≠ r.length ∨ r.length = 0) : chkO r u = 10 := by unfold chkO; rw [if_pos h]
theorem chkO8 {r u : List Int} (h : ¬ (u.length ≠ r.length ∨ r.length = 0)) (h2 : 60 < r.length) : chkO r u = 8 := by unfold chkO; rw [if_neg h, if_pos h2]
theorem chkOr {r u : List Int} (h : ¬ (u.length ≠ r.length ∨ r.length = 0)) (h2 : ¬ 60 < r.length) (h3 : chkP r ≠ 0) : chkO r u = chkP r := by unfold chkO; rw [if_neg h, if_neg h2, if_pos h3]
theorem chkOu {r u : List Int} (h : ¬ (u.length ≠ r.length ∨ r.length = 0)) (h2 : ¬ 60 < r.length) (h3 : chkP r = 0) : chkO r u = chkP u := by unfold chkO; rw [if_neg h, if_neg h2, if_neg (fun e => e h3)]
structure IsO (r u : List Int) (n : Nat) (f f' g g' : Nat → Nat) : Prop where
  pos : 0 < n
  le : n ≤ 60
  hr : r = PL n f
  hu : u = PL n g
  pr : IsP n f f'
  pu : IsP n g g'
theorem chkO_ok {r u : List Int} (h : chkO r u = 0) : ∃ n f f' g g', IsO r u n f f' g g' := by
  by_cases h1 : u.length ≠ r.length ∨ r.length = 0
  · rw [chkO10 h1] at h; omega
  by_cases h2 : 60 < r.length
  · rw [chkO8 h1 h2] at h; omega
  by_cases h3 : chkP r = 0
  · rw [chkOu h1 h2 h3] at h
    rcases chkP_cases r with ⟨-, a1, a2⟩ | a | a
    · rcases chkP_cases u with ⟨-, b1, b2⟩ | b | b
      · obtain ⟨f, f', e1, p1⟩ := perm_of a1 a2
        obtain ⟨g, g', e2, p2⟩ := perm_of b1 b2
        have hl : u.length = r.length := by omega
        rw [hl] at e2 p2
        exact ⟨r.length, f, f', g, g', by omega, by omega, e1, e2, p1, p2⟩
      · rw [b] at h; omega
      · rw [b] at h; omega
    · rw [a] at h3; omega
    · rw [a] at h3; omega
  · rw [chkOr h1 h2 h3] at h; exact absurd h h3
theorem fn18 : ctx.fn 18 = some c18 := by kernel_rfl
theorem check_ct (hS : OldO S) {r u : List Int} (l1 : r.length ≤ 1000000) (l2 : u.length ≤ 1000000) : Ct (ctx.plus S) 18 [pO r u] 5 fun v => v = pn (chkO r u) := by
  refine ct_of (hS 18 (by decide)) fn18 ?_
  refine ⟨by omega, ?_⟩
  refine ⟨_, rfl, ?_⟩
  refine ⟨_, rfl, ?_⟩
  refine ⟨fun h1 => ?_, fun h1 => ?_⟩
  · exact endq rfl (by rw [chkO10 (.inl (by omega))])
  refine ⟨fun h2 => ?_, fun h2 => ?_⟩
  · exact endq rfl (by rw [chkO10 (.inr (by omega))])
  have h12 : ¬ (u.length ≠ r.length ∨ r.length = 0) := by omega
  refine ⟨fun h3 => ?_, fun h3 => ?_⟩
  · exact endq rfl (by rw [chkO8 h12 (by omega)])
  refine ⟨_, rfl, ?_⟩
  refine callq rfl (checkP_ct S hS l1) (by omega) ?_
  rintro _ rfl
  refine ⟨fun h4 => ?_, fun h4 => ?_⟩
  · exact endq rfl (by rw [chkOr h12 (by omega) h4])
  refine ⟨_, rfl, ?_⟩
  refine callq rfl (checkP_ct S hS l2) (by omega) ?_
  rintro _ rfl
  exact endq rfl (by rw [chkOu h12 (by omega) h4])
theorem fn25 : ctx.fn 25 = some c25 := by kernel_rfl
theorem inr_to {xs : List Int} (h : ∀ x ∈ xs.take xs.length, 0 ≤ x ∧ x < xs.length) : InR xs := by rwa [List.take_length] at h
theorem checkList_ct (hS : OldO S) {xs : List Int} (hl : xs.length ≤ 1000000) : Ct (ctx.plus S) 25 [pIs xs, pn xs.length] 0 fun r => r = pn (chkP xs) := by
  refine ct_of (hS 25 (by decide)) fn25 ?_
  refine ⟨fun m s => ∃ (i : Nat) (T : List PV), s = ⟨T, [], 0⟩ ∧ Gt T 47 [(0, pIs xs), (1, pn xs.length), (5, pn i)] ∧ m = xs.length - i ∧ i ≤ xs.length ∧ Hid (∀ x ∈ xs.take i, 0 ≤ x ∧ x < xs.length), ⟨_, ci ⟨0, _, rfl, ⟨rfl, rfl, rfl, rfl, trivial⟩, rfl, Nat.zero_le _, ⟨fun x hx => by simp at hx⟩⟩⟩, ?_⟩
  rintro _ s ⟨i, T, rfl, hT, rfl, hi, hn⟩
  obtain ⟨J, rfl⟩ := gt_open hT
  clear hT
  refine ⟨fun hlt => ?_, fun hge => ?_⟩
  · obtain ⟨e, he⟩ := xs_get (xs := xs) (i := i) (by omega)
    refine ⟨⟨⟨by omega, by omega⟩, len_map_le (by omega)⟩, ?_⟩
    refine ⟨_, ld (at_map he) (by show _ * 1 = i; omega), ?_⟩
    have hbad : ¬ (0 ≤ e ∧ e < xs.length) → chkP xs = 2 := fun h => chk2 fun h2 => h (h2 e (List.mem_of_getElem? he))
    refine ⟨fun h1 => ?_, fun h1 => ?_⟩
    · exact endq rfl (by rw [hbad (by omega)])
    refine ⟨⟨⟨by omega, by omega⟩, len_map_le (by omega)⟩, ?_⟩
    refine ⟨_, ld (at_map he) (by show _ * 1 = i; omega), ?_⟩
    refine ⟨fun h2 => ?_, fun h2 => ?_⟩
    · exact endq rfl (by rw [hbad (by omega)])
    refine ⟨⟨by omega, by omega⟩, ?_⟩
    exact ⟨_, by omega, ci ⟨i + 1, _, rfl, ⟨rfl, rfl, rfl, rfl, trivial⟩, rfl, by omega, ⟨fun x hx => by
      rw [take_snoc he] at hx
      rcases List.mem_append.1 hx with hx | hx
      · exact hn.h x hx
      · rw [List.mem_singleton.1 hx]; omega⟩⟩⟩
  · have hin : InR xs := inr_to (by have := hn.h; have e : i = xs.length := by omega
                                    rwa [e] at this)
    refine ⟨fun m s => ∃ (i : Nat) (T : List PV), s = ⟨T, [], 0⟩ ∧ Gt T 47 [(0, pIs xs), (1, pn xs.length), (6, pn i)] ∧ m = xs.length - i ∧ i ≤ xs.length ∧ Hid ((xs.take i).Nodup), ⟨_, ci ⟨0, _, rfl, ⟨rfl, rfl, rfl, rfl, trivial⟩, rfl, Nat.zero_le _, ⟨by simp⟩⟩⟩, ?_⟩
    rintro _ s ⟨i, T, rfl, hT, rfl, hi, hn⟩
    obtain ⟨J, rfl⟩ := gt_open hT
    clear hT
    refine ⟨fun hlt => ?_, fun hge => ?_⟩
    · obtain ⟨e, he⟩ := xs_get (xs := xs) (i := i) (by omega)
      refine ⟨fun m s => ∃ (k : Nat) (T : List PV), s = ⟨T, [], 0⟩ ∧ Gt T 47 [(0, pIs xs), (1, pn xs.length), (6, pn i), (7, pn k)] ∧ m = i - k ∧ k ≤ i ∧ Hid (e ∉ xs.take k), ⟨_, ci ⟨0, _, rfl, ⟨rfl, rfl, rfl, rfl, rfl, trivial⟩, rfl, Nat.zero_le _, ⟨by simp⟩⟩⟩, ?_⟩
      rintro _ s ⟨k, T, rfl, hT, rfl, hk, hm⟩
      obtain ⟨J, rfl⟩ := gt_open hT
      clear hT
      refine ⟨fun hlt2 => ?_, fun hge2 => ?_⟩
      · obtain ⟨e2, he2⟩ := xs_get (xs := xs) (i := k) (by omega)
        refine ⟨by kernel_rfl, ?_⟩
        refine ⟨⟨⟨by omega, by omega⟩, len_map_le (by omega)⟩, ?_⟩
        refine ⟨_, ld (at_map he) (by show _ * 1 = i; omega), rfl, ?_⟩
        refine ⟨⟨⟨by omega, by omega⟩, len_map_le (by omega)⟩, ?_⟩
        refine ⟨_, ld (at_map he2) (by show _ * 1 = k; omega), rfl, ?_⟩
        refine ⟨fun heq => ?_, fun hne => ?_⟩
        · refine endq rfl ?_
          rw [chk3 hin fun hnd => ?_]
          rw [← heq, ← he] at he2
          have := (List.getElem?_inj (by omega) hnd).1 he2
          omega
        · refine ⟨⟨by omega, by omega⟩, ?_⟩
          exact ⟨_, by omega, ci ⟨k + 1, _, rfl, ⟨rfl, rfl, rfl, rfl, rfl, trivial⟩, rfl, by omega, ⟨fun hx => by
            rw [take_snoc he2] at hx
            rcases List.mem_append.1 hx with hx | hx
            · exact hm.h hx
            · exact hne (List.mem_singleton.1 hx)⟩⟩⟩
      · have hki : k = i := by omega
        subst hki
        refine ⟨⟨by omega, by omega⟩, ?_⟩
        refine ⟨_, by omega, ci ⟨k + 1, _, rfl, ⟨rfl, rfl, rfl, rfl, trivial⟩, rfl, by omega, ⟨?_⟩⟩⟩
        rw [take_snoc he]
        exact List.nodup_append.2 ⟨hn.h, by simp, fun a ha b hb => by rw [List.mem_singleton.1 hb]; rintro rfl; exact hm.h ha⟩
    · refine endq rfl ?_
      have := hn.h
      rw [List.take_of_length_le (by omega)] at this
      rw [chk0 hin this]
theorem fn15 : ctx.fn 15 = some c15 := by kernel_rfl
theorem rcheck_ct (hS : OldO S) {r u : List Int} (l1 : r.length ≤ 1000000) (l2 : u.length ≤ 1000000) : Ct (ctx.plus S) 15 [pO r u] 1 fun v => v = pn (chkO r u) := by
  refine ct_of (hS 15 (by decide)) fn15 ?_
  refine ⟨by omega, ?_⟩
  refine ⟨_, rfl, ?_⟩
  refine ⟨_, rfl, ?_⟩
  refine ⟨fun h1 => ?_, fun h1 => ?_⟩
  · exact endq rfl (by rw [chkO10 (.inl (by omega))])
  refine ⟨fun h2 => ?_, fun h2 => ?_⟩
  · exact endq rfl (by rw [chkO10 (.inr (by omega))])
  have h12 : ¬ (u.length ≠ r.length ∨ r.length = 0) := by omega
  refine ⟨fun h3 => ?_, fun h3 => ?_⟩
  · exact endq rfl (by rw [chkO8 h12 (by omega)])
  refine ⟨_, rfl, ?_⟩
  refine callq rfl (checkList_ct S hS l1) (by omega) ?_
  rintro _ rfl
  refine ⟨fun h4 => ?_, fun h4 => ?_⟩
  · exact endq rfl (by rw [chkOr h12 (by omega) h4])
  refine ⟨_, rfl, ?_⟩
  have hc : Ct (ctx.plus S) 25 [pIs u, pn r.length] 0 fun v => v = pn (chkP u) := by
    rw [show (r.length : Int) = u.length by omega]
    exact checkList_ct S hS l2
  refine callq rfl hc (by omega) ?_
  rintro _ rfl
  exact endq rfl (by rw [chkOu h12 (by omega) h4])
end Go.PI
/- PERMUTATIONS: inverses, products, cycles, of the program and of the reference. -/
open Go.Proofs
namespace Go.PI
open IM
set_option maxRecDepth 10000
set_option maxHeartbeats 4000000
variable (S : FuncId → Option (List AV → Heap → Option (AV × Heap)))
theorem fz_ints {i n : Nat} {σ : List StB} {xs : List Int} (h : contOf σ i = some (3, xs.map pn)) (hl : xs.length = n) : Fz (.own i 0 n n 1) σ (pIs xs) (σ.set i (.frz 3 (xs.map pn))) := by
  subst hl
  exact fz_own h (by simp) (Nat.le_refl _) (by rw [List.take_of_length_le (by simp)])
theorem int_zero {n : Nat} : (List.replicate n [pn 0]).flatten = (List.replicate n (0 : Int)).map pn := by
  rw [List.flatten_replicate_singleton, List.map_replicate]
theorem int_put {xs : List Int} {o j : Nat} {y : Int} (ho : o = j) (hj : j < xs.length) : pspl (xs.map pn) o [pn y] = (xs.set j y).map pn := by
  rw [spl_at ho (by rw [List.length_map]; exact hj), List.map_set]
theorem fn116 : ctx.fn 116 = some c116 := by kernel_rfl
theorem inverse_ct (hS : OldO S) {n : Nat} {f g : Nat → Nat} (h : IsP n f g) (hn : n ≤ 1000000) : Ct (ctx.plus S) 116 [pIs (PL n f)] 1 fun r => r = pIs (PL n g) := by
  obtain ⟨xs, hx⟩ : ∃ xs, xs = PL n f := ⟨_, rfl⟩
  have hl : xs.length = n := by rw [hx, PL_len]
  have hg : ∀ i, i < n → xs[i]? = some (f i : Int) := fun i hi => by rw [hx, PL_get hi]
  rw [← hx]
  clear hx
  refine ct_of (hS 116 (by decide)) fn116 ?_
  refine ⟨by omega, ⟨by omega, by omega, by omega⟩, _, int_zero, ?_⟩
  refine ⟨fun m s => ∃ (i : Nat) (ys : List Int) (T : List PV), s = ⟨T, [.live 3 (ys.map pn)], 1⟩ ∧ Gt T 22 [(3, .own 0 0 xs.length xs.length 1), (9, pIs xs), (10, pn xs.length), (11, pn i)] ∧ m = n - i ∧ i ≤ n ∧ Hid (ys.length = n ∧ ∀ j : Nat, j < i → ys[f j]? = some (j : Int)), ⟨_, ci ⟨0, _, _, rfl, ⟨rfl, rfl, rfl, rfl, rfl, trivial⟩, rfl, Nat.zero_le _, ⟨by simp [hl], fun j hj => by omega⟩⟩⟩, ?_⟩
  rintro _ s ⟨i, ys, T, rfl, hT, rfl, hi, hy⟩
  obtain ⟨J, rfl⟩ := gt_open hT
  clear hT
  refine ⟨fun hlt => ?_, fun hge => ?_⟩
  · have he := hg i (by omega)
    have hfi := h.lt i (by omega)
    have hyl := hy.h.1
    refine ⟨⟨⟨by omega, by omega⟩, len_map_le (by omega)⟩, ?_⟩
    refine ⟨_, ld (at_map he) (by show _ * 1 = i; omega), ?_⟩
    refine ⟨⟨by omega, by omega⟩, ?_⟩
    refine ⟨_, _, rfl, ⟨rfl, by rw [List.length_map]; show 0 + f i * 1 + 1 ≤ _; omega, rfl⟩, _, int_put (j := f i) (by show 0 + f i * 1 = f i; omega) (by omega), _, rfl, ?_⟩
    refine ⟨⟨by omega, by omega⟩, ?_⟩
    refine ⟨_, by omega, ci ⟨i + 1, _, _, rfl, ⟨rfl, rfl, rfl, rfl, rfl, trivial⟩, rfl, by omega, ⟨by simp [hyl], fun j hj => ?_⟩⟩⟩
    by_cases hji : j = i
    · subst hji
      rw [List.getElem?_set_self (by omega)]
    · rw [List.getElem?_set_ne (fun e => hji (h.inj (by omega) (by omega) e.symm))]
      exact hy.h.2 j (by omega)
  · refine endf (fz_ints (xs := ys) rfl (by rw [hy.h.1, hl])) ?_
    rw [PL_ext (f := g) hy.h.1 fun j hj => ?_]
    have := hy.h.2 (g j) (by have := h.glt j hj; omega)
    rwa [h.fg j hj] at this
theorem fn124 : ctx.fn 124 = some c124 := by kernel_rfl
theorem product_ct (hS : OldO S) {n : Nat} {f g : Nat → Nat} (h : ∀ i, i < n → f i < n) (hn : n ≤ 1000000) : Ct (ctx.plus S) 124 [pIs (PL n f), pIs (PL n g)] 1 fun r => r = pIs (PL n fun i => g (f i)) := by
  obtain ⟨xs, hx⟩ : ∃ xs, xs = PL n f := ⟨_, rfl⟩
  have hl : xs.length = n := by rw [hx, PL_len]
  have hg : ∀ i, i < n → xs[i]? = some (f i : Int) := fun i hi => by rw [hx, PL_get hi]
  rw [← hx]
  clear hx
  obtain ⟨zs, hx⟩ : ∃ zs, zs = PL n g := ⟨_, rfl⟩
  have hzl : zs.length = n := by rw [hx, PL_len]
  have hzg : ∀ i, i < n → zs[i]? = some (g i : Int) := fun i hi => by rw [hx, PL_get hi]
  rw [← hx]
  clear hx
  refine ct_of (hS 124 (by decide)) fn124 ?_
  refine ⟨by omega, ⟨by omega, by omega, by omega⟩, _, int_zero, ?_⟩
  refine ⟨fun m s => ∃ (i : Nat) (ys : List Int) (T : List PV), s = ⟨T, [.live 3 (ys.map pn)], 1⟩ ∧ Gt T 27 [(1, pIs zs), (5, .own 0 0 xs.length xs.length 1), (11, pIs xs), (12, pn xs.length), (13, pn i)] ∧ m = n - i ∧ i ≤ n ∧ Hid (ys.length = n ∧ ∀ j : Nat, j < i → ys[j]? = some (g (f j) : Int)), ⟨_, ci ⟨0, _, _, rfl, ⟨rfl, rfl, rfl, rfl, rfl, rfl, trivial⟩, rfl, Nat.zero_le _, ⟨by simp [hl], fun j hj => by omega⟩⟩⟩, ?_⟩
  rintro _ s ⟨i, ys, T, rfl, hT, rfl, hi, hy⟩
  obtain ⟨J, rfl⟩ := gt_open hT
  clear hT
  refine ⟨fun hlt => ?_, fun hge => ?_⟩
  · have he := hg i (by omega)
    have hfi := h i (by omega)
    have hz := hzg (f i) hfi
    have hyl := hy.h.1
    refine ⟨⟨⟨by omega, by omega⟩, len_map_le (by omega)⟩, ?_⟩
    refine ⟨_, ld (at_map he) (by show _ * 1 = i; omega), ?_⟩
    refine ⟨⟨⟨by omega, by omega⟩, len_map_le (by omega)⟩, ?_⟩
    refine ⟨_, ld (at_map hz) (by show _ * 1 = f i; omega), ?_⟩
    refine ⟨⟨by omega, by omega⟩, ?_⟩
    refine ⟨_, _, rfl, ⟨rfl, by rw [List.length_map]; show 0 + i * 1 + 1 ≤ _; omega, rfl⟩, _, int_put (j := i) (by show 0 + i * 1 = i; omega) (by omega), _, rfl, ?_⟩
    refine ⟨⟨by omega, by omega⟩, ?_⟩
    refine ⟨_, by omega, ci ⟨i + 1, _, _, rfl, ⟨rfl, rfl, rfl, rfl, rfl, rfl, trivial⟩, rfl, by omega, ⟨by simp [hyl], fun j hj => ?_⟩⟩⟩
    by_cases hji : j = i
    · subst hji
      rw [List.getElem?_set_self (by omega)]
    · rw [List.getElem?_set_ne (Ne.symm hji)]
      exact hy.h.2 j (by omega)
  · refine endf (fz_ints (xs := ys) rfl (by rw [hy.h.1, hl])) ?_
    rw [PL_ext (f := fun i => g (f i)) hy.h.1 fun j hj => hy.h.2 j (by omega)]
end Go.PI
/- PERMUTATIONS: what the reference makes of them; cycles. -/
open Go.Proofs
namespace Go.PI
open IM
set_option maxRecDepth 10000
set_option maxHeartbeats 4000000
variable (S : FuncId → Option (List AV → Heap → Option (AV × Heap)))
def cmf (f f' g g' : Nat → Nat) (i : Nat) : Nat := g (f (g' (f' i)))
def cmi (f f' g g' : Nat → Nat) (i : Nat) : Nat := f (g (f' (g' i)))
theorem IsO.cm {r u : List Int} {n : Nat} {f f' g g' : Nat → Nat} (h : IsO r u n f f' g g') : IsP n (cmf f f' g g') (cmi f f' g g') :=
  ((h.pr.inv.comp h.pu.inv).comp h.pr).comp h.pu
theorem fn86 : ctx.fn 86 = some c86 := by kernel_rfl
theorem commutator_ct (hS : OldO S) {r u : List Int} {n : Nat} {f f' g g' : Nat → Nat} (h : IsO r u n f f' g g') : Ct (ctx.plus S) 86 [pO r u] 6 fun v => v = pIs (PL n (cmf f f' g g')) := by
  obtain ⟨h0, hn, rfl, rfl, pr, pu⟩ := h
  refine ct_of (hS 86 (by decide)) fn86 ?_
  refine ⟨by omega, ?_⟩
  refine ⟨by kernel_rfl, ?_⟩
  refine ⟨_, rfl, rfl, ?_⟩
  refine callq rfl (inverse_ct S hS pr (by omega)) (by omega) ?_
  rintro _ rfl
  refine ⟨_, rfl, rfl, ?_⟩
  refine callq rfl (inverse_ct S hS pu (by omega)) (by omega) ?_
  rintro _ rfl
  refine callq rfl (product_ct S hS pr.glt (by omega)) (by omega) ?_
  rintro _ rfl
  refine ⟨_, rfl, rfl, ?_⟩
  refine ⟨_, rfl, rfl, ?_⟩
  refine callq rfl (product_ct S hS pr.lt (by omega)) (by omega) ?_
  rintro _ rfl
  refine callq rfl (product_ct S hS (f := fun i => g' (f' i)) (fun i hi => pu.glt _ (pr.glt i hi)) (by omega)) (by omega) ?_
  rintro _ rfl
  exact endq rfl rfl
def cycTo (f : Nat → Nat) (x k : Nat) : List Int := (List.range k).map fun j => ((it f j x : Nat) : Int)
theorem cycTo_succ {f : Nat → Nat} {x k : Nat} : cycTo f x (k + 1) = cycTo f x k ++ [((it f k x : Nat) : Int)] := by simp [cycTo, List.range_succ]
theorem cycTo_len {f : Nat → Nat} {x k : Nat} : (cycTo f x k).length = k := by simp [cycTo]
theorem fn112 : ctx.fn 112 = some c112 := by kernel_rfl
theorem cycle_ct (hS : OldO S) {n x : Nat} {f g : Nat → Nat} (h : IsP n f g) (hn : n ≤ 1000) (hx : x < n) : Ct (ctx.plus S) 112 [pIs (PL n f), pn x] (2 * n) fun r => r = pIs (cyc f x) := by
  have hl : (PL n f).length = n := PL_len
  obtain ⟨o1, o2, o3, o4⟩ := ordr_spec h hx
  have hfx := h.lt x hx
  refine ct_of (hS 112 (by decide)) fn112 ?_
  refine ⟨by omega, part1 fzI ⟨[pn x], rfl, ?_⟩⟩
  refine ⟨⟨⟨by omega, by omega⟩, len_map_le (by omega)⟩, ?_⟩
  refine ⟨_, ld (at_map (PL_get hx)) (by show _ * 1 = x; omega), ?_⟩
  refine ⟨fun m s => ∃ (k b : Nat) (v : PV) (σ : List StB) (T : List PV), s = ⟨T, σ, b⟩ ∧ Gt T 25 [(0, pIs (PL n f)), (1, pn x), (5, v), (6, pn (it f k x : Nat))] ∧ m = ordr f x - k ∧ 1 ≤ k ∧ k ≤ ordr f x ∧ b + 1 ≤ 2 * k ∧ Hid (Gr pn 3 v σ (cycTo f x k)), ⟨_, ci ⟨1, 1, .own 0 0 1 1 1, [.live 3 [pn x]], _, rfl, ⟨rfl, rfl, rfl, rfl, rfl, trivial⟩, rfl, Nat.le_refl _, o1, Nat.le_refl _, ⟨.inr (.inl ⟨0, 3, rfl, rfl⟩)⟩⟩⟩, ?_⟩
  rintro _ s ⟨k, b, v, σ, T, rfl, hT, rfl, hk, hko, hb, hg⟩
  obtain ⟨J, rfl⟩ := gt_open hT
  clear hT
  have hit := it_lt h hx k
  refine ⟨fun hne => ?_, fun heq => ?_⟩
  · have hlt : k < ordr f x := by
      rcases Nat.lt_or_ge k (ordr f x) with a | a
      · exact a
      · have : k = ordr f x := by omega
        rw [this, o2] at hne
        exact absurd rfl hne
    refine ⟨by omega, part1 fzI ⟨[pn (it f k x : Nat)], rfl, ?_⟩⟩
    refine appG (f := pn) (e := 3) (y := ((it f k x : Nat) : Int)) hg.h.push push_cont rfl rfl rfl rfl (by kernel_rfl) rfl rfl (by rw [cycTo_len]; omega) (by omega) fun v' σ' hv' _ _ => ?_
    refine ⟨⟨⟨by omega, by omega⟩, len_map_le (by omega)⟩, ?_⟩
    refine ⟨_, ld (at_map (PL_get hit)) (by show _ * 1 = it f k x; omega), ?_⟩
    exact ⟨_, by omega, ci ⟨k + 1, _, v', σ', _, rfl, ⟨rfl, rfl, rfl, rfl, rfl, trivial⟩, rfl, by omega, by omega, by omega, ⟨cycTo_succ ▸ hv'⟩⟩⟩
  · have hko2 : k = ordr f x := by
      rcases Nat.lt_or_ge k (ordr f x) with a | a
      · exact absurd (by omega) (o4 k (by omega) a)
      · omega
    subst hko2
    obtain ⟨σ', hf⟩ := hg.h.fz
    exact endf hf rfl
end Go.PI
/- THE CYCLES of a permutation. -/
open Go.Proofs
namespace Go.PI
open IM
set_option maxRecDepth 10000
set_option maxHeartbeats 4000000
variable (S : FuncId → Option (List AV → Heap → Option (AV × Heap)))
def pM (M : List (List Int)) : PV := .lst M.length (M.map pIs)
def Done (n : Nat) (f : Nat → Nat) (i : Nat) (fl : List Bool) : Prop := fl.length = n ∧ ∀ y : Nat, y < n → (fl[y]? = some true ↔ ∃ x, x < i ∧ InC f x y)
def DoneTo (n : Nat) (f : Nat → Nat) (i k : Nat) (fl : List Bool) : Prop := fl.length = n ∧ ∀ y : Nat, y < n → (fl[y]? = some true ↔ (∃ x, x < i ∧ InC f x y) ∨ (y : Int) ∈ cycTo f i k)
theorem not_lead {n : Nat} {f g : Nat → Nat} (h : IsP n f g) {i : Nat} (hi : i < n) : (∃ x, x < i ∧ InC f x i) ↔ ¬ lead f i := by
  constructor
  · rintro ⟨x, hx, hc⟩ hl
    have := hl x (hc.symm h (by omega))
    omega
  · intro hn
    have : ∃ y, InC f i y ∧ y < i := Classical.byContradiction fun hc => hn fun y hy => by
      rcases Nat.lt_or_ge y i with a | a
      · exact absurd ⟨y, hy, a⟩ hc
      · exact a
    obtain ⟨y, hy, hlt⟩ := this
    exact ⟨y, hlt, hy.symm h hi⟩
theorem cyc_to {f : Nat → Nat} {x : Nat} : cyc f x = cycTo f x (ordr f x) := rfl
theorem done_to {n : Nat} {f : Nat → Nat} {i : Nat} {fl : List Bool} (h : Done n f i fl) : DoneTo n f i 0 fl := ⟨h.1, fun y hy => by rw [h.2 y hy]; simp [cycTo]⟩
theorem doneTo_next {n : Nat} {f g : Nat → Nat} (hp : IsP n f g) {i k : Nat} (hi : i < n) {fl : List Bool} (h : DoneTo n f i k fl) : DoneTo n f i (k + 1) (fl.set (it f k i) true) := by
  refine ⟨by simp [h.1], fun y hy => ?_⟩
  have hl := it_lt hp hi k
  rw [cycTo_succ, List.mem_append]
  by_cases hk : y = it f k i
  · subst hk
    rw [List.getElem?_set_self (by rw [h.1]; omega)]
    simp
  · rw [List.getElem?_set_ne (Ne.symm hk), h.2 y hy]
    constructor
    · rintro (a | a)
      · exact .inl a
      · exact .inr (.inl a)
    · rintro (a | a | a)
      · exact .inl a
      · exact .inr a
      · have := List.mem_singleton.1 a
        omega
theorem doneTo_done {n : Nat} {f g : Nat → Nat} (hp : IsP n f g) {i : Nat} (hi : i < n) {fl : List Bool} (h : DoneTo n f i (ordr f i) fl) : Done n f (i + 1) fl := by
  refine ⟨h.1, fun y hy => ?_⟩
  rw [h.2 y hy, ← cyc_to, mem_cyc hp hi]
  constructor
  · rintro (⟨x, hx, hc⟩ | ⟨z, hz, hc⟩)
    · exact ⟨x, by omega, hc⟩
    · have : y = z := by omega
      subst this
      exact ⟨i, by omega, hc⟩
  · rintro ⟨x, hx, hc⟩
    by_cases hxi : x = i
    · subst hxi; exact .inr ⟨y, rfl, hc⟩
    · exact .inl ⟨x, by omega, hc⟩
theorem done_skip {n : Nat} {f g : Nat → Nat} (hp : IsP n f g) {i : Nat} (hi : i < n) {fl : List Bool} (h : Done n f i fl) (hn : ¬ lead f i) : Done n f (i + 1) fl := by
  refine ⟨h.1, fun y hy => ?_⟩
  rw [h.2 y hy]
  constructor
  · rintro ⟨x, hx, hc⟩; exact ⟨x, by omega, hc⟩
  · rintro ⟨x, hx, hc⟩
    by_cases hxi : x = i
    · subst hxi
      obtain ⟨z, hz, hc2⟩ := (not_lead hp hi).2 hn
      exact ⟨z, hz, hc2.trans hc⟩
    · exact ⟨x, by omega, hc⟩
theorem cycs_len {n i : Nat} {f : Nat → Nat} (h : i ≤ n) : (cycs i f).length ≤ n := by
  unfold cycs
  rw [List.length_map]
  exact Nat.le_trans (List.length_filter_le _ _) (by rw [List.length_range]; exact h)
theorem cycs_yes {i : Nat} {f : Nat → Nat} (h : lead f i) : cycs (i + 1) f = cycs i f ++ [cyc f i] := by rw [cycs_step, if_pos h]
theorem cycs_no {i : Nat} {f : Nat → Nat} (h : ¬ lead f i) : cycs (i + 1) f = cycs i f := by rw [cycs_step, if_neg h]
theorem cyc_at {f : Nat → Nat} {x k : Nat} (h : k < ordr f x) : (cyc f x)[k]? = some ((it f k x : Nat) : Int) := by simp [cyc, h]
theorem fn70 : ctx.fn 70 = some c70 := by kernel_rfl
theorem cycles_ct (hS : OldO S) {n : Nat} {f g : Nat → Nat} (h : IsP n f g) (hn : n ≤ 1000) : Ct (ctx.plus S) 70 [pIs (PL n f)] (1 + n * (2 * n + 2)) fun r => r = pM (cycs n f) := by
  obtain ⟨xs, hx⟩ : ∃ xs, xs = PL n f := ⟨_, rfl⟩
  have hl : xs.length = n := by rw [hx, PL_len]
  rw [← hx]
  refine ct_of (hS 70 (by decide)) fn70 ?_
  refine ⟨by omega, ⟨by omega, by omega, by omega⟩, _, flg_zero, ?_⟩
  have hd0 : Done n f 0 (List.replicate xs.length false) := ⟨by simp [hl], fun y hy => by
    rw [List.getElem?_replicate]
    constructor
    · intro h; split at h <;> simp at h
    · rintro ⟨x, hx, -⟩; omega⟩
  refine ⟨fun m s => ∃ (i b : Nat) (v : PV) (σ : List StB) (fl : List Bool) (T : List PV), s = ⟨T, σ, b⟩ ∧ Gt T 40 [(0, pIs xs), (3, v), (4, .own 0 0 xs.length xs.length 1), (13, pn xs.length), (14, pn i)] ∧ m = n - i ∧ i ≤ n ∧ b ≤ 1 + i * (2 * n + 2) ∧ Hid (σ[0]? = some (.live 4 (fl.map PV.bool)) ∧ blkOf v ≠ some 0 ∧ Gr pIs 22 v σ (cycs i f) ∧ Done n f i fl), ⟨_, ci ⟨0, 1, .nils, [.live 4 ((List.replicate xs.length false).map PV.bool)], _, _, rfl, ⟨rfl, rfl, rfl, rfl, rfl, rfl, trivial⟩, rfl, Nat.zero_le _, by omega, ⟨rfl, (fun h => by cases h), .nil, hd0⟩⟩⟩, ?_⟩
  rintro _ s ⟨i, b, v, σ, fl, T, rfl, hT, rfl, hi, hb, hh⟩
  obtain ⟨J, rfl⟩ := gt_open hT
  clear hT
  obtain ⟨h0, hbv, hg, hd⟩ := hh.h
  clear hh
  have hh : Hid (blkOf v ≠ some 0 ∧ Gr pIs 22 v σ (cycs i f) ∧ Done n f i fl) := ⟨hbv, hg, hd⟩
  have hfl : fl.length = n := hd.1
  have hmul : i < n → b + (2 * n + 2) ≤ 1 + (i + 1) * (2 * n + 2) := fun _ => by rw [Nat.add_mul]; omega
  have hmul2 : i < n → 1 + (i + 1) * (2 * n + 2) ≤ 1 + n * (2 * n + 2) := fun hlt => Nat.add_le_add_left (Nat.mul_le_mul_right _ hlt) 1
  clear hbv hg hd
  refine ⟨fun hlt => ?_, fun hge => ?_⟩
  · have hmul := hmul (by omega)
    have hmul2 := hmul2 (by omega)
    refine ⟨⟨by omega, by omega⟩, ?_⟩
    obtain ⟨q, hq⟩ : ∃ q, fl[i]? = some q := ⟨fl[i]'(by omega), List.getElem?_eq_getElem _⟩
    refine ⟨_, load_k rfl rfl (contOf_live h0) (at_map hq) (by show 0 + _ * 1 = i; omega), ?_⟩
    have hld : q = true ↔ ¬ lead f i := by
      rw [← not_lead h (by omega), ← hh.h.2.2.2 i (by omega), hq]
      simp
    cases q with
    | true =>
      have hnl := hld.1 rfl
      refine ⟨⟨by omega, by omega⟩, ?_⟩
      exact ⟨_, by omega, ci ⟨i + 1, b, v, σ, fl, _, rfl, ⟨rfl, rfl, rfl, rfl, rfl, rfl, trivial⟩, rfl, by omega, by omega, ⟨h0, hh.h.1, cycs_no hnl ▸ hh.h.2.1, done_skip h (by omega) hh.h.2.2 hnl⟩⟩⟩
    | false =>
      have hlead : lead f i := Classical.byContradiction fun hc => by have := hld.2 hc; cases this
      have hin : i < n := by omega
      obtain ⟨o1, o2, o3, o4⟩ := ordr_spec h hin
      rw [hx]
      refine callq rfl (cycle_ct S hS h (by omega) (x := i) hin) (by omega) ?_
      rintro _ rfl
      rw [← hx]
      have hcl : (cyc f i).length = ordr f i := cyc_len
      refine ⟨fun m s => ∃ (k : Nat) (σ' : List StB) (fl' : List Bool) (T : List PV), s = ⟨T, σ', b + 2 * n⟩ ∧ Gt T 40 [(0, pIs xs), (3, v), (4, .own 0 0 xs.length xs.length 1), (6, pIs (cyc f i)), (13, pn xs.length), (14, pn i), (24, pIs (cyc f i)), (25, pn (cyc f i).length), (26, pn k)] ∧ m = ordr f i - k ∧ k ≤ ordr f i ∧ Hid (σ'[0]? = some (.live 4 (fl'.map PV.bool)) ∧ Gr pIs 22 v σ' (cycs i f) ∧ DoneTo n f i k fl'), ⟨_, ci ⟨0, σ, fl, _, rfl, ⟨rfl, rfl, rfl, rfl, rfl, rfl, rfl, rfl, rfl, rfl, trivial⟩, rfl, Nat.zero_le _, ⟨h0, hh.h.2.1, done_to hh.h.2.2⟩⟩⟩, ?_⟩
      rintro _ s ⟨k, σ', fl', T, rfl, hT, rfl, hk, hk2⟩
      obtain ⟨J, rfl⟩ := gt_open hT
      clear hT
      have hfl' : fl'.length = n := hk2.h.2.2.1
      refine ⟨fun hlt2 => ?_, fun hge2 => ?_⟩
      · have hit := it_lt h hin k
        refine ⟨⟨⟨by omega, by omega⟩, len_map_le (by omega)⟩, ?_⟩
        refine ⟨_, ld (at_map (cyc_at (show k < ordr f i by omega))) (by show _ * 1 = k; omega), ?_⟩
        refine ⟨⟨by omega, by omega⟩, ?_⟩
        refine ⟨_, _, hk2.h.1, ⟨rfl, by rw [List.length_map]; show 0 + it f k i * 1 + 1 ≤ _; omega, rfl⟩, _, flg_put (j := it f k i) (by show 0 + it f k i * 1 = it f k i; omega) (by omega), _, rfl, ?_⟩
        refine ⟨⟨by omega, by omega⟩, ?_⟩
        have hs0 := (List.getElem?_eq_some_iff.1 hk2.h.1).1
        exact ⟨_, by omega, ci ⟨k + 1, _, _, _, rfl, ⟨rfl, rfl, rfl, rfl, rfl, rfl, rfl, rfl, rfl, rfl, trivial⟩, rfl, by omega, ⟨by rw [List.getElem?_set_self hs0], hk2.h.2.1.keep (fun j x hj hx => by
          rw [List.getElem?_set_ne (fun e => hh.h.1 (by rw [hj, ← e]))]; exact hx), doneTo_next h hin hk2.h.2.2⟩⟩⟩
      · have hko : k = ordr f i := by omega
        subst hko
        refine ⟨by omega, part1 fzL ⟨[pIs (cyc f i)], rfl, ?_⟩⟩
        have hcn := cycs_len (f := f) (show i ≤ n by omega)
        refine appG (f := pIs) (e := 22) (y := cyc f i) hk2.h.2.1.push push_cont rfl rfl rfl rfl (by kernel_rfl) rfl rfl (by omega) (by omega) fun v' σ2 hv' hkeep hb' => ?_
        refine ⟨⟨by omega, by omega⟩, ?_⟩
        have hlen : (σ' ++ [StB.live 22 [pIs (cyc f i)]]).length = σ'.length + 1 := by simp
        exact ⟨_, by omega, ci ⟨i + 1, _, v', σ2, fl', _, rfl, ⟨rfl, rfl, rfl, rfl, rfl, rfl, trivial⟩, rfl, by omega, by omega, ⟨hkeep 0 _ hh.h.1 (push_old hk2.h.1), (fun e => by rw [hb', hlen] at e; cases e), cycs_yes hlead ▸ hv', doneTo_done h hin hk2.h.2.2⟩⟩⟩
  · have hin : i = n := by omega
    subst hin
    obtain ⟨σ', hf⟩ := hh.h.2.1.fz
    exact endf hf rfl
end Go.PI
/- THE CYCLES of the reference; lists compared. -/
open Go.Proofs
namespace Go.PI
open IM
set_option maxRecDepth 10000
set_option maxHeartbeats 4000000
variable (S : FuncId → Option (List AV → Heap → Option (AV × Heap)))
theorem fn30 : ctx.fn 30 = some c30 := by kernel_rfl
def Eqs (xs ys : List Int) (i : Nat) : Prop := xs.take i = ys.take i
theorem eqs_next {xs ys : List Int} {i : Nat} {a b : Int} (h : Eqs xs ys i) (hx : xs[i]? = some a) (hy : ys[i]? = some b) (he : a = b) : Eqs xs ys (i + 1) := by
  unfold Eqs at *
  rw [take_snoc hx, take_snoc hy, h, he]
theorem ints_ct (hS : OldO S) {xs ys : List Int} (hx : xs.length ≤ 1000000) (hy : ys.length ≤ 1000000) : Ct (ctx.plus S) 30 [pIs xs, pIs ys] 0 fun r => r = .bool (decide (xs = ys)) := by
  refine ct_of (hS 30 (by decide)) fn30 ?_
  refine ⟨fun hne => ?_, fun heq => ?_⟩
  · exact endq rfl (by rw [decide_eq_false (fun h => hne (by rw [h]))])
  have hle : xs.length = ys.length := by omega
  refine ⟨fun m s => ∃ (i : Nat) (T : List PV), s = ⟨T, [], 0⟩ ∧ Gt T 26 [(0, pIs xs), (1, pIs ys), (5, pn i)] ∧ m = xs.length - i ∧ i ≤ xs.length ∧ Hid (Eqs xs ys i), ⟨_, ci ⟨0, _, rfl, ⟨rfl, rfl, rfl, rfl, trivial⟩, rfl, Nat.zero_le _, ⟨rfl⟩⟩⟩, ?_⟩
  rintro _ s ⟨i, T, rfl, hT, rfl, hi, hn⟩
  obtain ⟨J, rfl⟩ := gt_open hT
  clear hT
  refine ⟨fun hlt => ?_, fun hge => ?_⟩
  · obtain ⟨a, ha⟩ := xs_get (xs := xs) (i := i) (by omega)
    obtain ⟨b, hb⟩ := xs_get (xs := ys) (i := i) (by omega)
    refine ⟨by kernel_rfl, ?_⟩
    refine ⟨⟨⟨by omega, by omega⟩, len_map_le (by omega)⟩, ?_⟩
    refine ⟨_, ld (at_map ha) (by show _ * 1 = i; omega), rfl, ?_⟩
    refine ⟨⟨⟨by omega, by omega⟩, len_map_le (by omega)⟩, ?_⟩
    refine ⟨_, ld (at_map hb) (by show _ * 1 = i; omega), rfl, ?_⟩
    refine ⟨fun hne => ?_, fun heq => ?_⟩
    · exact endq rfl (by rw [decide_eq_false (fun h => by rw [h, hb] at ha; cases ha; exact hne rfl)])
    · refine ⟨⟨by omega, by omega⟩, ?_⟩
      exact ⟨_, by omega, ci ⟨i + 1, _, rfl, ⟨rfl, rfl, rfl, rfl, trivial⟩, rfl, by omega, ⟨eqs_next hn.h ha hb (by omega)⟩⟩⟩
  · exact endq rfl (by rw [decide_eq_true (by have := hn.h; unfold Eqs at this; rwa [List.take_of_length_le (by omega), List.take_of_length_le (by omega)] at this)])
end Go.PI
/- ANSWERS of the program; the law of vertices. -/
open Go.Proofs
namespace Go.PI
open IM
set_option maxRecDepth 10000
set_option maxHeartbeats 4000000
variable (S : FuncId → Option (List AV → Heap → Option (AV × Heap)))
def flO (L : List (List Int × List Int)) : List PV := L.flatMap fun p => [pIs p.1, pIs p.2]
def pOs (L : List (List Int × List Int)) : PV := .lst L.length (flO L)
theorem flO_len : ∀ {L : List (List Int × List Int)}, (flO L).length = 2 * L.length
  | [] => rfl
  | p :: L => by
    have := flO_len (L := L)
    unfold flO at this ⊢
    rw [List.flatMap_cons, List.length_append, this]
    simp only [List.length_cons, List.length_nil]
    omega
theorem flO_at : ∀ {L : List (List Int × List Int)} {i q : Nat} {r u : List Int}, L[i]? = some (r, u) → q = 2 * i → ((flO L).drop q).take 2 = [pIs r, pIs u]
  | [], _, _, _, _, h, _ => by simp at h
  | p :: L, 0, _, r, u, h, hq => by
    simp at h
    subst h; subst hq
    rfl
  | p :: L, i + 1, q, r, u, h, hq => by
    have e : flO (p :: L) = pIs p.1 :: pIs p.2 :: flO L := rfl
    rw [e, hq, show 2 * (i + 1) = 2 * i + 1 + 1 by omega, List.drop_succ_cons, List.drop_succ_cons]
    exact flO_at (by simpa using h) rfl
open Classical in
/-- the error of the first one that has one -/
noncomputable def chkA : List (List Int × List Int) → Int
  | [] => 0
  | p :: L => if chkO p.1 p.2 ≠ 0 then chkO p.1 p.2 else chkA L
theorem chkA_bad : ∀ {L : List (List Int × List Int)} {i : Nat} {r u : List Int}, (∀ p ∈ L.take i, chkO p.1 p.2 = 0) → L[i]? = some (r, u) → chkO r u ≠ 0 → chkA L = chkO r u
  | [], _, _, _, _, h, _ => by simp at h
  | p :: L, 0, r, u, _, h, h2 => by
    simp at h
    subst h
    unfold chkA; rw [if_pos h2]
  | p :: L, i + 1, r, u, h0, h, h2 => by
    have := h0 p (by simp)
    unfold chkA
    rw [if_neg (fun e => e this)]
    exact chkA_bad (i := i) (fun q hq => h0 q (by simp [hq])) (by simpa using h) h2
theorem chkA_ok : ∀ {L : List (List Int × List Int)}, (∀ p ∈ L, chkO p.1 p.2 = 0) → chkA L = 0
  | [], _ => rfl
  | p :: L, h => by
    unfold chkA
    rw [if_neg (fun e => e (h p (by simp)))]
    exact chkA_ok fun q hq => h q (by simp [hq])
theorem chkA_one {r u : List Int} : chkA [(r, u)] = chkO r u := by
  unfold chkA
  by_cases h : chkO r u = 0
  · rw [if_neg (fun e => e h), h]; rfl
  · rw [if_pos h]
theorem fn63 : ctx.fn 63 = some c63 := by kernel_rfl
theorem checkAll_ct (hS : OldO S) {L : List (List Int × List Int)} (hL : L.length ≤ 10) (hl : ∀ p ∈ L, p.1.length ≤ 1000000 ∧ p.2.length ≤ 1000000) : Ct (ctx.plus S) 63 [pOs L] (6 * L.length) fun v => v = pn (chkA L) := by
  refine ct_of (hS 63 (by decide)) fn63 ?_
  refine ⟨fun m s => ∃ (i b : Nat) (σ : List StB) (T : List PV), s = ⟨T, σ, b⟩ ∧ Gt T 18 [(6, pOs L), (7, pn L.length), (8, pn i)] ∧ m = L.length - i ∧ i ≤ L.length ∧ b ≤ 6 * i ∧ Hid (∀ p ∈ L.take i, chkO p.1 p.2 = 0), ⟨_, ci ⟨0, 0, [], _, rfl, ⟨rfl, rfl, rfl, rfl, trivial⟩, rfl, Nat.zero_le _, Nat.le_refl _, ⟨fun p hp => by simp at hp⟩⟩⟩, ?_⟩
  rintro _ s ⟨i, b, σ, T, rfl, hT, rfl, hi, hb, hz⟩
  obtain ⟨J, rfl⟩ := gt_open hT
  clear hT
  refine ⟨fun hlt => ?_, fun hge => ?_⟩
  · obtain ⟨⟨r, u⟩, he⟩ : ∃ p, L[i]? = some p := ⟨L[i]'(by omega), List.getElem?_eq_getElem _⟩
    obtain ⟨l1, l2⟩ := hl _ (List.mem_of_getElem? he)
    have hfl : (flO L).length = 2 * L.length := flO_len
    refine ⟨⟨⟨by omega, by omega⟩, by rw [hfl]; show i * 2 ≤ _; omega⟩, ?_⟩
    have hat : ∀ q, q = 2 * i → partP t24 ((flO L).drop q) 0 = some (pO r u) := fun q hq => by
      show (if 0 + 2 ≤ ((flO L).drop q).length then some (PV.agg ((((flO L).drop q).drop 0).take 2)) else none) = _
      rw [if_pos (by rw [List.length_drop, hfl]; omega), List.drop_zero, flO_at he hq]
      rfl
    refine ⟨_, hat _ (by show _ * 2 = _; omega), ?_⟩
    refine ⟨by omega, ?_⟩
    refine ⟨_, _, push_get, ⟨rfl, by decide, rfl⟩, _, rfl, _, push_set, ?_⟩
    refine ⟨_, (show ploadE _ _ 24 (.optr σ.length 0) = some (pO r u) by unfold ploadE; rw [show (ctx.plus S).ty 24 = some t24 from rfl]; simp only [push_cont]; rfl), ?_⟩
    refine callq rfl (check_ct S hS l1 l2) (by omega) ?_
    rintro _ rfl
    refine ⟨fun h0 => ?_, fun h0 => ?_⟩
    · exact endq rfl (by rw [chkA_bad hz.h he h0])
    · refine ⟨⟨by omega, by omega⟩, ?_⟩
      exact ⟨_, by omega, ci ⟨i + 1, _, _, _, rfl, ⟨rfl, rfl, rfl, rfl, trivial⟩, rfl, by omega, by omega, ⟨fun p hp => by
        rw [List.take_add_one, he] at hp
        rcases List.mem_append.1 hp with hp | hp
        · exact hz.h p hp
        · simp at hp; subst hp; exact h0⟩⟩⟩
  · exact endq rfl (by rw [chkA_ok]; have := hz.h; rwa [List.take_of_length_le (by omega)] at this)
theorem fn85 : ctx.fn 85 = some c85 := by kernel_rfl
theorem answer85_ct (hS : OldO S) {r u : List Int} {chk dc g d : Nat} {e : Int} {Q : PV → Prop} (hc : Ct (ctx.plus S) chk [pOs [(r, u)]] dc fun v => v = pn e) (hq : ∀ v, Q v → cloA v = true) (hg : e = 0 → Ct (ctx.plus S) g [pO r u] d Q) :
    Ct (ctx.plus S) 85 [pO r u, .fn chk, .fn g] (2 + dc + d) fun v => (e ≠ 0 ∧ v = .tup [.lst 0 [], pn e]) ∨ (e = 0 ∧ ∃ w, Q w ∧ v = .tup [w, pn 0]) := by
  refine ct_of (hS 85 (by decide)) fn85 ?_
  refine ⟨by omega, ?_⟩
  refine ⟨_, rfl, ?_⟩
  refine ⟨by omega, partc rfl ⟨_, rfl, ?_⟩⟩
  refine cal1 (fz_own (ty := 24) rfl (Nat.le_refl 2) (Nat.le_refl _) rfl) hc (by omega) ?_
  rintro _ rfl
  refine ⟨fun h0 => ?_, fun h0 => ?_⟩
  · exact ⟨⟨[], .inl ⟨h0, rfl⟩⟩⟩
  · refine ⟨_, rfl, ?_⟩
    refine callq rfl (hg h0) (by omega) ?_
    intro w hw
    exact endsq (by simp only [cloAs, hq w hw]; rfl) (.inr ⟨h0, w, hw, rfl⟩)
theorem check1_ct (hS : OldO S) {r u : List Int} (l1 : r.length ≤ 1000000) (l2 : u.length ≤ 1000000) : Ct (ctx.plus S) 63 [pOs [(r, u)]] 6 fun v => v = pn (chkO r u) := by
  have := checkAll_ct S hS (L := [(r, u)]) (by simp) (fun p hp => by rw [List.mem_singleton.1 hp]; exact ⟨l1, l2⟩)
  rw [chkA_one] at this
  exact this
theorem nodup_PL {n : Nat} {f g : Nat → Nat} (h : IsP n f g) : (PL n f).Nodup := by
  unfold PL List.Nodup
  rw [List.pairwise_map]
  refine List.pairwise_lt_range.imp_of_mem fun {a b} ha hb hab e => ?_
  have := h.inj (List.mem_range.1 ha) (List.mem_range.1 hb) (by omega)
  omega
theorem IsO.chk {r u : List Int} {n : Nat} {f f' g g' : Nat → Nat} (h : IsO r u n f f' g g') : chkO r u = 0 := by
  obtain ⟨h0, hn, rfl, rfl, pr, pu⟩ := h
  rw [chkOu (by simp only [PL_len]; omega) (by rw [PL_len]; omega) (chk0 (inR_PL pr) (nodup_PL pr)), chk0 (inR_PL pu) (nodup_PL pu)]
theorem IsO.l1 {r u : List Int} {n : Nat} {f f' g g' : Nat → Nat} (h : IsO r u n f f' g g') : r.length = n ∧ u.length = n := by rw [h.hr, h.hu]; exact ⟨PL_len, PL_len⟩
theorem fn87 : ctx.fn 87 = some c87 := by kernel_rfl
theorem vertices_ct (hS : OldO S) {r u : List Int} {n : Nat} {f f' g g' : Nat → Nat} (h : IsO r u n f f' g g') : Ct (ctx.plus S) 87 [pO r u] 10000 fun v => v = pM (cycs n (cmf f f' g g')) := by
  have hn := h.le
  have hm : n * (2 * n + 2) ≤ 60 * 122 := Nat.mul_le_mul hn (by omega)
  refine ct_of (hS 87 (by decide)) fn87 ?_
  refine ⟨by omega, ?_⟩
  refine ⟨_, rfl, ?_⟩
  refine callq rfl (commutator_ct S hS h) (by omega) ?_
  rintro _ rfl
  refine callq rfl (cycles_ct S hS h.cm (by omega)) (by omega) ?_
  rintro _ rfl
  exact endq rfl rfl
theorem cycs_mem {n : Nat} {f g : Nat → Nat} (h : IsP n f g) : ∀ x ∈ cycs n f, x.length ≤ n := fun x hx => by
  unfold cycs at hx
  obtain ⟨i, hi, rfl⟩ := List.mem_map.1 hx
  have := List.mem_range.1 (List.mem_filter.1 hi).1
  rw [cyc_len]
  exact (ordr_spec h this).2.2.1
end Go.PI
