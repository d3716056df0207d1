/- Own work of the verifier: OgA OgB OgC OgD OgE OgF OgG OgArg. -/
import Derived.Test.YtefajaiioljjoaaOuAV
import Derived.Test.YtefajaiioljjoaaOuAT
import Derived.Lib.SmallJoins
import Derived.ChangeSlices
set_option linter.all false
set_option exponentiation.threshold 3000
set_option linter.deprecated false
/- LISTS OF INTEGERS: what is asked of permutations. -/
open Go.Proofs
namespace Go.PI
open IM
set_option maxRecDepth 10000
set_option maxHeartbeats 4000000
variable (S : FuncId → Option (List AV → Heap → Option (AV × Heap)))
theorem xs_get {xs : List Int} {i : Nat} (h : i < xs.length) : ∃ e, xs[i]? = some e := ⟨xs[i], List.getElem?_eq_getElem _⟩
theorem fz_fnc1 {f i : Nat} {ty : TypeId} {cs : List PV} {σ : List StB} (h : contOf σ i = some (ty, cs)) : Fz (.fnc f [.optr i 0]) σ (.fnc f [.lptr cs]) (σ.set i (.frz ty cs)) := fun _ hK => ⟨ty, cs, h, Nat.zero_le _, hK⟩
theorem cloA_of {p : PV} (h : clo p = true) : cloA p = true := by cases p <;> first | exact h | cases h
theorem cloAs_of : ∀ {ps : List PV}, clos ps = true → cloAs ps = true
  | [], _ => rfl
  | p :: ps, h => by
    simp only [clos, Bool.and_eq_true] at h
    simp only [cloAs, cloA_of h.1, cloAs_of h.2, Bool.and_self]
theorem cloAs_cons {p : PV} {ps : List PV} (h1 : cloA p = true) (h : clos ps = true) : cloAs (p :: ps) = true := by simp only [cloAs, h1, cloAs_of h, Bool.and_self]
theorem fn65 : ctx.fn 65 = some c65 := by kernel_rfl
theorem fn111 : ctx.fn 111 = some c111 := by kernel_rfl
theorem fn136 : ctx.fn 136 = some c136 := by kernel_rfl
theorem fn110 : ctx.fn 110 = some c110 := by kernel_rfl
theorem fn67 : ctx.fn 67 = some c67 := by kernel_rfl
theorem within_ct (hS : OldO S) {n a b : Int} : Ct (ctx.plus S) 65 [pn n, pn a, pn b] 0 fun r => r = .bool (decide (a ≤ n ∧ n ≤ b)) := by
  refine ct_of (hS 65 (by decide)) fn65 ?_
  refine ⟨fun h1 => ?_, fun h1 => ?_⟩
  · refine ⟨fun h2 => ?_, fun h2 => ?_⟩
    · exact endq rfl (by rw [decide_eq_true ⟨by omega, by omega⟩])
    · exact endq rfl (by rw [decide_eq_false (by omega)])
  · exact endq rfl (by rw [decide_eq_false (by omega)])
theorem outside_ct (hS : OldO S) {xs : List Int} {x : Int} (hl : xs.length ≤ 1000000) : Ct (ctx.plus S) 111 [pn x, .lptr [pIs xs]] 0 fun r => r = .bool (!decide (0 ≤ x ∧ x < xs.length)) := by
  refine ct_of (hS 111 (by decide)) fn111 ?_
  refine ⟨_, rfl, ?_⟩
  refine ⟨⟨by omega, by omega⟩, ?_⟩
  refine callq rfl (within_ct S hS) (by omega) ?_
  rintro _ rfl
  by_cases h : 0 ≤ x ∧ x < xs.length
  · rw [decide_eq_true (show 0 ≤ x ∧ x ≤ xs.length - 1 by omega), decide_eq_true h]
    exact endq rfl rfl
  · rw [decide_eq_false (show ¬ (0 ≤ x ∧ x ≤ xs.length - 1) by omega), decide_eq_false h]
    exact endq rfl rfl
theorem indexFunc_ct (hS : OldO S) {xs : List Int} {g d : Nat} {cs : List PV} {P : Int → Bool} (hc : clos cs = true) (hl : xs.length ≤ 1000000) (hg : ∀ x ∈ xs, Ct (ctx.plus S) g (pn x :: cs) 0 fun r => r = .bool (P x)) :
    Ct (ctx.plus S) 136 [pIs xs, .fnc g cs] 0 fun r => ∃ v : Int, r = pn v ∧ (0 ≤ v ↔ ∃ x ∈ xs, P x = true) := by
  refine ct_of (hS 136 (by decide)) fn136 ?_
  refine ⟨fun m s => ∃ (i : Nat) (T : List PV), s = ⟨T, [], 0⟩ ∧ Gt T 19 [(0, pIs xs), (1, .fnc g cs), (7, pn xs.length), (8, pn i)] ∧ m = xs.length - i ∧ i ≤ xs.length ∧ Hid (∀ x ∈ xs.take i, P x = false), ⟨_, ci ⟨0, _, rfl, ⟨rfl, rfl, rfl, rfl, rfl, trivial⟩, rfl, Nat.zero_le _, ⟨fun x hx => by simp at hx⟩⟩⟩, ?_⟩
  rintro _ s ⟨i, T, rfl, hT, rfl, hi, hn⟩
  obtain ⟨J, rfl⟩ := gt_open hT
  clear hT
  refine ⟨fun hlt => ?_, fun hge => ?_⟩
  · obtain ⟨e, he⟩ := xs_get (xs := xs) (i := i) (by omega)
    have hm := List.mem_of_getElem? he
    refine ⟨⟨⟨by omega, by omega⟩, len_map_le (by omega)⟩, ?_⟩
    refine ⟨_, ld (at_map he) (by show _ * 1 = i; omega), ?_⟩
    refine callq (ps := pn e :: cs) (cloAs_cons rfl hc) (hg e hm) (by omega) ?_
    rintro _ rfl
    cases hp : P e with
    | true => exact endq rfl ⟨i, rfl, fun _ => ⟨e, hm, hp⟩, fun _ => by omega⟩
    | false =>
      refine ⟨⟨by omega, by omega⟩, ?_⟩
      exact ⟨_, by omega, ci ⟨i + 1, _, rfl, ⟨rfl, rfl, rfl, rfl, rfl, trivial⟩, rfl, by omega, ⟨fun x hx => by
        rw [take_snoc he] at hx
        rcases List.mem_append.1 hx with hx | hx
        · exact hn.h x hx
        · rw [List.mem_singleton.1 hx]; exact hp⟩⟩⟩
  · refine endq rfl ⟨-1, rfl, fun h => by omega, fun ⟨x, hx, hp⟩ => ?_⟩
    have := hn.h x (by rw [List.take_of_length_le (by omega)]; exact hx)
    rw [hp] at this
    cases this
theorem containsFunc_ct (hS : OldO S) {xs : List Int} {g d : Nat} {cs : List PV} {P : Int → Bool} (hc : clos cs = true) (hl : xs.length ≤ 1000000) (hg : ∀ x ∈ xs, Ct (ctx.plus S) g (pn x :: cs) 0 fun r => r = .bool (P x)) :
    Ct (ctx.plus S) 110 [pIs xs, .fnc g cs] 0 fun r => ((∃ x ∈ xs, P x = true) ∧ r = .bool true) ∨ ((∀ x ∈ xs, P x = false) ∧ r = .bool false) := by
  refine ct_of (hS 110 (by decide)) fn110 ?_
  refine callq (ps := [pIs xs, .fnc g cs]) (by simp only [cloAs, cloA, hc]; rfl) (indexFunc_ct S hS hc hl hg (d := d)) (by omega) ?_
  rintro _ ⟨v, rfl, hv⟩
  refine ⟨fun h => ?_, fun h => ?_⟩
  · exact endq rfl (.inl ⟨hv.1 h, rfl⟩)
  · exact endq rfl (.inr ⟨fun x hx => by
      cases hp : P x with
      | false => rfl
      | true => exact absurd (hv.2 ⟨x, hx, hp⟩) (by omega), rfl⟩)
def SeenF (xs : List Int) (i : Nat) (fl : List Bool) : Prop := fl.length = xs.length ∧ (xs.take i).Nodup ∧ ∀ j : Nat, fl[j]? = some true ↔ (j : Int) ∈ xs.take i ∧ j < xs.length
theorem seen_next {xs : List Int} {i j : Nat} {fl : List Bool} (h : SeenF xs i fl) (he : xs[i]? = some (j : Int)) (hj : j < xs.length) (hf : fl[j]? = some false) : SeenF xs (i + 1) (fl.set j true) := by
  obtain ⟨h1, h2, h3⟩ := h
  have hni : (j : Int) ∉ xs.take i := fun hm => by
    have := (h3 j).2 ⟨hm, hj⟩
    rw [hf] at this; cases this
  refine ⟨by simp [h1], ?_, fun k => ?_⟩
  · rw [take_snoc he]
    exact List.nodup_append.2 ⟨h2, by simp, fun a ha b hb => by rw [List.mem_singleton.1 hb]; rintro rfl; exact hni ha⟩
  · rw [take_snoc he, List.mem_append]
    by_cases hk : k = j
    · subst hk
      rw [List.getElem?_set_self (by omega)]
      simp [hj]
    · rw [List.getElem?_set_ne (Ne.symm hk), h3 k]
      constructor
      · rintro ⟨a, b⟩; exact ⟨.inl a, b⟩
      · rintro ⟨a | a, b⟩
        · exact ⟨a, b⟩
        · have := List.mem_singleton.1 a
          omega
theorem flg_zero {n : Nat} : (List.replicate n [PV.bool false]).flatten = (List.replicate n false).map PV.bool := by
  rw [List.flatten_replicate_singleton, List.map_replicate]
theorem flg_put {fl : List Bool} {o j : Nat} (ho : o = j) (hj : j < fl.length) : pspl (fl.map PV.bool) o [.bool true] = (fl.set j true).map PV.bool := by
  rw [spl_at ho (by rw [List.length_map]; exact hj), List.map_set]
theorem checkP_ct (hS : OldO S) {xs : List Int} (hl : xs.length ≤ 1000000) : Ct (ctx.plus S) 67 [pIs xs] 2 fun r => r = pn (chkP xs) := by
  refine ct_of (hS 67 (by decide)) fn67 ?_
  refine ⟨by omega, ?_⟩
  refine ⟨_, rfl, ?_⟩
  refine cal2 (fzL) (fz_fnc1 rfl) (containsFunc_ct S hS (d := 0) (P := fun x => !decide (0 ≤ x ∧ x < xs.length)) rfl hl fun x _ => outside_ct S hS hl) (by omega) ?_
  rintro _ (⟨⟨x, hx, hp⟩, rfl⟩ | ⟨hall, rfl⟩)
  · exact endq rfl (by rw [chk2 fun h => by have := h x hx; simp [this] at hp])
  have hin : InR xs := fun x hx => by
    have := hall x hx
    simpa using this
  refine ⟨_, rfl, ?_⟩
  refine ⟨by omega, ⟨by omega, by omega, by omega⟩, _, flg_zero, ?_⟩
  refine ⟨_, rfl, ?_⟩
  have hn0 : SeenF xs 0 (List.replicate xs.length false) := ⟨by simp, by simp, fun j => by
    simp only [List.take_zero, List.not_mem_nil, false_and, iff_false]
    rw [List.getElem?_replicate]
    split <;> simp⟩
  refine ⟨fun m s => ∃ (i : Nat) (fl : List Bool) (T : List PV), s = ⟨T, [.frz 22 [pIs xs], .live 4 (fl.map PV.bool)], 2⟩ ∧ Gt T 26 [(1, .optr 0 0), (3, .own 1 0 xs.length xs.length 1), (12, pIs xs), (13, pn xs.length), (14, pn i)] ∧ m = xs.length - i ∧ i ≤ xs.length ∧ Hid (SeenF xs i fl), ⟨_, ci ⟨0, _, _, rfl, ⟨rfl, rfl, rfl, rfl, rfl, rfl, trivial⟩, rfl, Nat.zero_le _, ⟨hn0⟩⟩⟩, ?_⟩
  rintro _ s ⟨i, fl, T, rfl, hT, rfl, hi, hn⟩
  obtain ⟨J, rfl⟩ := gt_open hT
  clear hT
  refine ⟨fun hlt => ?_, fun hge => ?_⟩
  · obtain ⟨e, he⟩ := xs_get (xs := xs) (i := i) (by omega)
    have hm := hin e (List.mem_of_getElem? he)
    obtain ⟨j, rfl⟩ : ∃ j : Nat, e = j := ⟨e.toNat, by omega⟩
    have hj : j < xs.length := by omega
    have hfl : fl.length = xs.length := hn.h.1
    refine ⟨⟨⟨by omega, by omega⟩, len_map_le (by omega)⟩, ?_⟩
    refine ⟨_, ld (at_map he) (by show _ * 1 = i; omega), ?_⟩
    refine ⟨⟨by omega, by omega⟩, ?_⟩
    obtain ⟨b, hb⟩ : ∃ b, fl[j]? = some b := ⟨fl[j]'(by omega), List.getElem?_eq_getElem _⟩
    refine ⟨_, load_k rfl rfl rfl (at_map hb) (by show 0 + _ * 1 = j; omega), ?_⟩
    cases b with
    | true =>
      refine endq rfl ?_
      rw [chk3 hin fun hnd => ?_]
      have h1 := ((hn.h.2.2 j).1 hb).1
      obtain ⟨q, hq⟩ := List.getElem?_of_mem h1
      have hqi : q < i := by
        have := (List.getElem?_eq_some_iff.1 hq).1
        rw [List.length_take] at this; omega
      rw [List.getElem?_take, if_pos hqi] at hq
      rw [← he] at hq
      have := (List.getElem?_inj (by omega) hnd).1 hq
      omega
    | false =>
      refine ⟨⟨by omega, by omega⟩, ?_⟩
      refine ⟨_, _, rfl, ⟨rfl, by rw [List.length_map]; show 0 + j * 1 + 1 ≤ _; omega, rfl⟩, _, flg_put (by show 0 + j * 1 = j; omega) (by omega), _, rfl, ?_⟩
      refine ⟨⟨by omega, by omega⟩, ?_⟩
      exact ⟨_, by omega, ci ⟨i + 1, _, _, rfl, ⟨rfl, rfl, rfl, rfl, rfl, rfl, trivial⟩, rfl, by omega, ⟨seen_next hn.h he hj hb⟩⟩⟩
  · refine endq rfl ?_
    have := hn.h.2.1
    rw [List.take_of_length_le (by omega)] at this
    rw [chk0 hin this]
end Go.PI
/- ORIGAMIS: whether they are valid, of the program and of the reference. -/
open Go.Proofs
namespace Go.PI
open IM
set_option maxRecDepth 10000
set_option maxHeartbeats 4000000
variable (S : FuncId → Option (List AV → Heap → Option (AV × Heap)))
def pO (r u : List Int) : PV := .agg [pIs r, pIs u]
open Classical in
noncomputable def chkO (r u : List Int) : Int := if u.length ≠ r.length ∨ r.length = 0 then 10 else if 60 < r.length then 8 else if chkP r ≠ 0 then chkP r else chkP u
theorem chkO10 {r u : List Int} (h : u.length ≠ r.length ∨ r.length = 0) : chkO r u = 10 := by unfold chkO; rw [if_pos h]
theorem chkO8 {r u : List Int} (h : ¬ (u.length ≠ r.length ∨ r.length = 0)) (h2 : 60 < r.length) : chkO r u = 8 := by unfold chkO; rw [if_neg h, if_pos h2]
theorem chkOr {r u : List Int} (h : ¬ (u.length ≠ r.length ∨ r.length = 0)) (h2 : ¬ 60 < r.length) (h3 : chkP r ≠ 0) : chkO r u = chkP r := by unfold chkO; rw [if_neg h, if_neg h2, if_pos h3]
theorem chkOu {r u : List Int} (h : ¬ (u.length ≠ r.length ∨ r.length = 0)) (h2 : ¬ 60 < r.length) (h3 : chkP r = 0) : chkO r u = chkP u := by unfold chkO; rw [if_neg h, if_neg h2, if_neg (fun e => e h3)]
structure IsO (r u : List Int) (n : Nat) (f f' g g' : Nat → Nat) : Prop where
  pos : 0 < n
  le : n ≤ 60
  hr : r = PL n f
  hu : u = PL n g
  pr : IsP n f f'
  pu : IsP n g g'
theorem chkO_ok {r u : List Int} (h : chkO r u = 0) : ∃ n f f' g g', IsO r u n f f' g g' := by
  by_cases h1 : u.length ≠ r.length ∨ r.length = 0
  · rw [chkO10 h1] at h; omega
  by_cases h2 : 60 < r.length
  · rw [chkO8 h1 h2] at h; omega
  by_cases h3 : chkP r = 0
  · rw [chkOu h1 h2 h3] at h
    rcases chkP_cases r with ⟨-, a1, a2⟩ | a | a
    · rcases chkP_cases u with ⟨-, b1, b2⟩ | b | b
      · obtain ⟨f, f', e1, p1⟩ := perm_of a1 a2
        obtain ⟨g, g', e2, p2⟩ := perm_of b1 b2
        have hl : u.length = r.length := by omega
        rw [hl] at e2 p2
        exact ⟨r.length, f, f', g, g', by omega, by omega, e1, e2, p1, p2⟩
      · rw [b] at h; omega
      · rw [b] at h; omega
    · rw [a] at h3; omega
    · rw [a] at h3; omega
  · rw [chkOr h1 h2 h3] at h; exact absurd h h3
theorem fn18 : ctx.fn 18 = some c18 := by kernel_rfl
theorem check_ct (hS : OldO S) {r u : List Int} (l1 : r.length ≤ 1000000) (l2 : u.length ≤ 1000000) : Ct (ctx.plus S) 18 [pO r u] 5 fun v => v = pn (chkO r u) := by
  refine ct_of (hS 18 (by decide)) fn18 ?_
  refine ⟨by omega, ?_⟩
  refine ⟨_, rfl, ?_⟩
  refine ⟨_, rfl, ?_⟩
  refine ⟨fun h1 => ?_, fun h1 => ?_⟩
  · exact endq rfl (by rw [chkO10 (.inl (by omega))])
  refine ⟨fun h2 => ?_, fun h2 => ?_⟩
  · exact endq rfl (by rw [chkO10 (.inr (by omega))])
  have h12 : ¬ (u.length ≠ r.length ∨ r.length = 0) := by omega
  refine ⟨fun h3 => ?_, fun h3 => ?_⟩
  · exact endq rfl (by rw [chkO8 h12 (by omega)])
  refine ⟨_, rfl, ?_⟩
  refine callq rfl (checkP_ct S hS l1) (by omega) ?_
  rintro _ rfl
  refine ⟨fun h4 => ?_, fun h4 => ?_⟩
  · exact endq rfl (by rw [chkOr h12 (by omega) h4])
  refine ⟨_, rfl, ?_⟩
  refine callq rfl (checkP_ct S hS l2) (by omega) ?_
  rintro _ rfl
  exact endq rfl (by rw [chkOu h12 (by omega) h4])
theorem fn25 : ctx.fn 25 = some c25 := by kernel_rfl
theorem inr_to {xs : List Int} (h : ∀ x ∈ xs.take xs.length, 0 ≤ x ∧ x < xs.length) : InR xs := by rwa [List.take_length] at h
theorem checkList_ct (hS : OldO S) {xs : List Int} (hl : xs.length ≤ 1000000) : Ct (ctx.plus S) 25 [pIs xs, pn xs.length] 0 fun r => r = pn (chkP xs) := by
  refine ct_of (hS 25 (by decide)) fn25 ?_
  refine ⟨fun m s => ∃ (i : Nat) (T : List PV), s = ⟨T, [], 0⟩ ∧ Gt T 47 [(0, pIs xs), (1, pn xs.length), (5, pn i)] ∧ m = xs.length - i ∧ i ≤ xs.length ∧ Hid (∀ x ∈ xs.take i, 0 ≤ x ∧ x < xs.length), ⟨_, ci ⟨0, _, rfl, ⟨rfl, rfl, rfl, rfl, trivial⟩, rfl, Nat.zero_le _, ⟨fun x hx => by simp at hx⟩⟩⟩, ?_⟩
  rintro _ s ⟨i, T, rfl, hT, rfl, hi, hn⟩
  obtain ⟨J, rfl⟩ := gt_open hT
  clear hT
  refine ⟨fun hlt => ?_, fun hge => ?_⟩
  · obtain ⟨e, he⟩ := xs_get (xs := xs) (i := i) (by omega)
    refine ⟨⟨⟨by omega, by omega⟩, len_map_le (by omega)⟩, ?_⟩
    refine ⟨_, ld (at_map he) (by show _ * 1 = i; omega), ?_⟩
    have hbad : ¬ (0 ≤ e ∧ e < xs.length) → chkP xs = 2 := fun h => chk2 fun h2 => h (h2 e (List.mem_of_getElem? he))
    refine ⟨fun h1 => ?_, fun h1 => ?_⟩
    · exact endq rfl (by rw [hbad (by omega)])
    refine ⟨⟨⟨by omega, by omega⟩, len_map_le (by omega)⟩, ?_⟩
    refine ⟨_, ld (at_map he) (by show _ * 1 = i; omega), ?_⟩
    refine ⟨fun h2 => ?_, fun h2 => ?_⟩
    · exact endq rfl (by rw [hbad (by omega)])
    refine ⟨⟨by omega, by omega⟩, ?_⟩
    exact ⟨_, by omega, ci ⟨i + 1, _, rfl, ⟨rfl, rfl, rfl, rfl, trivial⟩, rfl, by omega, ⟨fun x hx => by
      rw [take_snoc he] at hx
      rcases List.mem_append.1 hx with hx | hx
      · exact hn.h x hx
      · rw [List.mem_singleton.1 hx]; omega⟩⟩⟩
  · have hin : InR xs := inr_to (by have := hn.h; have e : i = xs.length := by omega
                                    rwa [e] at this)
    refine ⟨fun m s => ∃ (i : Nat) (T : List PV), s = ⟨T, [], 0⟩ ∧ Gt T 47 [(0, pIs xs), (1, pn xs.length), (6, pn i)] ∧ m = xs.length - i ∧ i ≤ xs.length ∧ Hid ((xs.take i).Nodup), ⟨_, ci ⟨0, _, rfl, ⟨rfl, rfl, rfl, rfl, trivial⟩, rfl, Nat.zero_le _, ⟨by simp⟩⟩⟩, ?_⟩
    rintro _ s ⟨i, T, rfl, hT, rfl, hi, hn⟩
    obtain ⟨J, rfl⟩ := gt_open hT
    clear hT
    refine ⟨fun hlt => ?_, fun hge => ?_⟩
    · obtain ⟨e, he⟩ := xs_get (xs := xs) (i := i) (by omega)
      refine ⟨fun m s => ∃ (k : Nat) (T : List PV), s = ⟨T, [], 0⟩ ∧ Gt T 47 [(0, pIs xs), (1, pn xs.length), (6, pn i), (7, pn k)] ∧ m = i - k ∧ k ≤ i ∧ Hid (e ∉ xs.take k), ⟨_, ci ⟨0, _, rfl, ⟨rfl, rfl, rfl, rfl, rfl, trivial⟩, rfl, Nat.zero_le _, ⟨by simp⟩⟩⟩, ?_⟩
      rintro _ s ⟨k, T, rfl, hT, rfl, hk, hm⟩
      obtain ⟨J, rfl⟩ := gt_open hT
      clear hT
      refine ⟨fun hlt2 => ?_, fun hge2 => ?_⟩
      · obtain ⟨e2, he2⟩ := xs_get (xs := xs) (i := k) (by omega)
        refine ⟨by kernel_rfl, ?_⟩
        refine ⟨⟨⟨by omega, by omega⟩, len_map_le (by omega)⟩, ?_⟩
        refine ⟨_, ld (at_map he) (by show _ * 1 = i; omega), rfl, ?_⟩
        refine ⟨⟨⟨by omega, by omega⟩, len_map_le (by omega)⟩, ?_⟩
        refine ⟨_, ld (at_map he2) (by show _ * 1 = k; omega), rfl, ?_⟩
        refine ⟨fun heq => ?_, fun hne => ?_⟩
        · refine endq rfl ?_
          rw [chk3 hin fun hnd => ?_]
          rw [← heq, ← he] at he2
          have := (List.getElem?_inj (by omega) hnd).1 he2
          omega
        · refine ⟨⟨by omega, by omega⟩, ?_⟩
          exact ⟨_, by omega, ci ⟨k + 1, _, rfl, ⟨rfl, rfl, rfl, rfl, rfl, trivial⟩, rfl, by omega, ⟨fun hx => by
            rw [take_snoc he2] at hx
            rcases List.mem_append.1 hx with hx | hx
            · exact hm.h hx
            · exact hne (List.mem_singleton.1 hx)⟩⟩⟩
      · have hki : k = i := by omega
        subst hki
        refine ⟨⟨by omega, by omega⟩, ?_⟩
        refine ⟨_, by omega, ci ⟨k + 1, _, rfl, ⟨rfl, rfl, rfl, rfl, trivial⟩, rfl, by omega, ⟨?_⟩⟩⟩
        rw [take_snoc he]
        exact List.nodup_append.2 ⟨hn.h, by simp, fun a ha b hb => by rw [List.mem_singleton.1 hb]; rintro rfl; exact hm.h ha⟩
    · refine endq rfl ?_
      have := hn.h
      rw [List.take_of_length_le (by omega)] at this
      rw [chk0 hin this]
theorem fn15 : ctx.fn 15 = some c15 := by kernel_rfl
theorem rcheck_ct (hS : OldO S) {r u : List Int} (l1 : r.length ≤ 1000000) (l2 : u.length ≤ 1000000) : Ct (ctx.plus S) 15 [pO r u] 1 fun v => v = pn (chkO r u) := by
  refine ct_of (hS 15 (by decide)) fn15 ?_
  refine ⟨by omega, ?_⟩
  refine ⟨_, rfl, ?_⟩
  refine ⟨_, rfl, ?_⟩
  refine ⟨fun h1 => ?_, fun h1 => ?_⟩
  · exact endq rfl (by rw [chkO10 (.inl (by omega))])
  refine ⟨fun h2 => ?_, fun h2 => ?_⟩
  · exact endq rfl (by rw [chkO10 (.inr (by omega))])
  have h12 : ¬ (u.length ≠ r.length ∨ r.length = 0) := by omega
  refine ⟨fun h3 => ?_, fun h3 => ?_⟩
  · exact endq rfl (by rw [chkO8 h12 (by omega)])
  refine ⟨_, rfl, ?_⟩
  refine callq rfl (checkList_ct S hS l1) (by omega) ?_
  rintro _ rfl
  refine ⟨fun h4 => ?_, fun h4 => ?_⟩
  · exact endq rfl (by rw [chkOr h12 (by omega) h4])
  refine ⟨_, rfl, ?_⟩
  have hc : Ct (ctx.plus S) 25 [pIs u, pn r.length] 0 fun v => v = pn (chkP u) := by
    rw [show (r.length : Int) = u.length by omega]
    exact checkList_ct S hS l2
  refine callq rfl hc (by omega) ?_
  rintro _ rfl
  exact endq rfl (by rw [chkOu h12 (by omega) h4])
theorem fn14 : ctx.fn 14 = some c14 := by kernel_rfl
def FewO (r u : List Int) : Prop := (r.length ≤ 12 ∧ u.length ≤ 12) ∨ (60 < r.length ∧ r.length ≤ 62 ∧ u.length ≤ 62)
theorem few_ct (hS : OldO S) {r u : List Int} : Ct (ctx.plus S) 14 [pO r u] 1 fun v => (FewO r u ∧ v = .bool true) ∨ (¬ FewO r u ∧ v = .bool false) := by
  refine ct_of (hS 14 (by decide)) fn14 ?_
  refine ⟨by omega, ?_⟩
  refine ⟨by kernel_rfl, ?_⟩
  refine ⟨_, rfl, rfl, ?_⟩
  refine ⟨_, rfl, rfl, ?_⟩
  refine ⟨fun h1 => ?_, fun h1 => ?_⟩
  · refine ⟨fun h2 => ?_, fun h2 => ?_⟩
    · exact endq rfl (.inl ⟨.inl ⟨by omega, by omega⟩, rfl⟩)
    · refine ⟨fun h3 => ?_, fun h3 => ?_⟩
      · omega
      · exact endq rfl (.inr ⟨fun h => by rcases h with h | h <;> omega, rfl⟩)
  · refine ⟨fun h3 => ?_, fun h3 => ?_⟩
    · refine ⟨fun h4 => ?_, fun h4 => ?_⟩
      · refine ⟨fun h5 => ?_, fun h5 => ?_⟩
        · exact endq rfl (.inl ⟨.inr ⟨by omega, by omega, by omega⟩, rfl⟩)
        · exact endq rfl (.inr ⟨fun h => by rcases h with h | h <;> omega, rfl⟩)
      · exact endq rfl (.inr ⟨fun h => by rcases h with h | h <;> omega, rfl⟩)
    · exact endq rfl (.inr ⟨fun h => by rcases h with h | h <;> omega, rfl⟩)
end Go.PI
/- PERMUTATIONS: inverses, products, cycles, of the program and of the reference. -/
open Go.Proofs
namespace Go.PI
open IM
set_option maxRecDepth 10000
set_option maxHeartbeats 4000000
variable (S : FuncId → Option (List AV → Heap → Option (AV × Heap)))
theorem fz_ints {i n : Nat} {σ : List StB} {xs : List Int} (h : contOf σ i = some (3, xs.map pn)) (hl : xs.length = n) : Fz (.own i 0 n n 1) σ (pIs xs) (σ.set i (.frz 3 (xs.map pn))) := by
  subst hl
  exact fz_own h (by simp) (Nat.le_refl _) (by rw [List.take_of_length_le (by simp)])
theorem int_zero {n : Nat} : (List.replicate n [pn 0]).flatten = (List.replicate n (0 : Int)).map pn := by
  rw [List.flatten_replicate_singleton, List.map_replicate]
theorem int_put {xs : List Int} {o j : Nat} {y : Int} (ho : o = j) (hj : j < xs.length) : pspl (xs.map pn) o [pn y] = (xs.set j y).map pn := by
  rw [spl_at ho (by rw [List.length_map]; exact hj), List.map_set]
end Go.PI
/- PERMUTATIONS: what the reference makes of them; cycles. -/
open Go.Proofs
namespace Go.PI
open IM
set_option maxRecDepth 10000
set_option maxHeartbeats 4000000
variable (S : FuncId → Option (List AV → Heap → Option (AV × Heap)))
def NotB (xs : List Int) (x : Int) (i : Nat) : Prop := ∀ j, j < i → xs[j]? ≠ some x
theorem notB_next {xs : List Int} {x e : Int} {i : Nat} (h : NotB xs x i) (he : xs[i]? = some e) (hne : e ≠ x) : NotB xs x (i + 1) := fun j hj => by
  by_cases hji : j = i
  · subst hji; rw [he]; intro h2; cases h2; exact hne rfl
  · exact h j (by omega)
theorem notB_end {xs : List Int} {x : Int} {i : Nat} (h : NotB xs x i) (hi : xs.length ≤ i) : x ∉ xs := fun hm => by
  obtain ⟨j, hj⟩ := List.getElem?_of_mem hm
  have := (List.getElem?_eq_some_iff.1 hj).1
  exact h j (by omega) hj
def idx (xs : List Int) (x : Int) : Int := if x ∈ xs then (xs.idxOf x : Nat) else -1
theorem idx_at {xs : List Int} {x : Int} {i : Nat} (h : NotB xs x i) (he : xs[i]? = some x) : idx xs x = i := by
  have hm := List.mem_of_getElem? he
  have hl : xs.idxOf x < xs.length := List.idxOf_lt_length_of_mem hm
  have h1 : xs[xs.idxOf x]? = some x := by rw [List.getElem?_eq_getElem hl, List.getElem_idxOf]
  have h2 : ¬ xs.idxOf x < i := fun hlt => h _ hlt h1
  have h3 : xs.idxOf x ≤ i := by
    have hi := (List.getElem?_eq_some_iff.1 he)
    refine Nat.le_of_not_lt fun hlt => ?_
    have := List.not_of_lt_findIdx hlt
    rw [hi.2] at this
    simp at this
  unfold idx
  rw [if_pos hm]
  omega
theorem fn69 : ctx.fn 69 = some c69 := by kernel_rfl
theorem at_ct (hS : OldO S) {xs : List Int} {x : Int} (hl : xs.length ≤ 1000000) : Ct (ctx.plus S) 69 [pIs xs, pn x] 0 fun r => r = pn (idx xs x) := by
  refine ct_of (hS 69 (by decide)) fn69 ?_
  refine ⟨fun m s => ∃ (i : Nat) (T : List PV), s = ⟨T, [], 0⟩ ∧ Gt T 19 [(0, pIs xs), (1, pn x), (5, pn i)] ∧ m = xs.length - i ∧ i ≤ xs.length ∧ Hid (NotB xs x i), ⟨_, ci ⟨0, _, rfl, ⟨rfl, rfl, rfl, rfl, trivial⟩, rfl, Nat.zero_le _, ⟨fun j hj => by omega⟩⟩⟩, ?_⟩
  rintro _ s ⟨i, T, rfl, hT, rfl, hi, hn⟩
  obtain ⟨J, rfl⟩ := gt_open hT
  clear hT
  refine ⟨fun hlt => ?_, fun hge => ?_⟩
  · obtain ⟨e, he⟩ := xs_get (xs := xs) (i := i) (by omega)
    refine ⟨⟨⟨by omega, by omega⟩, len_map_le (by omega)⟩, ?_⟩
    refine ⟨_, ld (at_map he) (by show _ * 1 = i; omega), ?_⟩
    refine ⟨fun heq => ?_, fun hne => ?_⟩
    · exact endq rfl (by rw [idx_at hn.h (by rw [he]; congr 1)]; rfl)
    · refine ⟨⟨by omega, by omega⟩, ?_⟩
      exact ⟨_, by omega, ci ⟨i + 1, _, rfl, ⟨rfl, rfl, rfl, rfl, trivial⟩, rfl, by omega, ⟨notB_next hn.h he hne⟩⟩⟩
  · exact endq rfl (by unfold idx; rw [if_neg (notB_end hn.h (by omega))])
def cmi (f f' g g' : Nat → Nat) (i : Nat) : Nat := f (g (f' (g' i)))
end Go.PI
/- THE CYCLES of a permutation. -/
open Go.Proofs
namespace Go.PI
open IM
set_option maxRecDepth 10000
set_option maxHeartbeats 4000000
variable (S : FuncId → Option (List AV → Heap → Option (AV × Heap)))
def pM (M : List (List Int)) : PV := .lst M.length (M.map pIs)
end Go.PI
/- THE CYCLES of the reference; lists compared. -/
open Go.Proofs
namespace Go.PI
open IM
set_option maxRecDepth 10000
set_option maxHeartbeats 4000000
variable (S : FuncId → Option (List AV → Heap → Option (AV × Heap)))
theorem fn30 : ctx.fn 30 = some c30 := by kernel_rfl
def Eqs (xs ys : List Int) (i : Nat) : Prop := xs.take i = ys.take i
theorem eqs_next {xs ys : List Int} {i : Nat} {a b : Int} (h : Eqs xs ys i) (hx : xs[i]? = some a) (hy : ys[i]? = some b) (he : a = b) : Eqs xs ys (i + 1) := by
  unfold Eqs at *
  rw [take_snoc hx, take_snoc hy, h, he]
theorem ints_ct (hS : OldO S) {xs ys : List Int} (hx : xs.length ≤ 1000000) (hy : ys.length ≤ 1000000) : Ct (ctx.plus S) 30 [pIs xs, pIs ys] 0 fun r => r = .bool (decide (xs = ys)) := by
  refine ct_of (hS 30 (by decide)) fn30 ?_
  refine ⟨fun hne => ?_, fun heq => ?_⟩
  · exact endq rfl (by rw [decide_eq_false (fun h => hne (by rw [h]))])
  have hle : xs.length = ys.length := by omega
  refine ⟨fun m s => ∃ (i : Nat) (T : List PV), s = ⟨T, [], 0⟩ ∧ Gt T 26 [(0, pIs xs), (1, pIs ys), (5, pn i)] ∧ m = xs.length - i ∧ i ≤ xs.length ∧ Hid (Eqs xs ys i), ⟨_, ci ⟨0, _, rfl, ⟨rfl, rfl, rfl, rfl, trivial⟩, rfl, Nat.zero_le _, ⟨rfl⟩⟩⟩, ?_⟩
  rintro _ s ⟨i, T, rfl, hT, rfl, hi, hn⟩
  obtain ⟨J, rfl⟩ := gt_open hT
  clear hT
  refine ⟨fun hlt => ?_, fun hge => ?_⟩
  · obtain ⟨a, ha⟩ := xs_get (xs := xs) (i := i) (by omega)
    obtain ⟨b, hb⟩ := xs_get (xs := ys) (i := i) (by omega)
    refine ⟨by kernel_rfl, ?_⟩
    refine ⟨⟨⟨by omega, by omega⟩, len_map_le (by omega)⟩, ?_⟩
    refine ⟨_, ld (at_map ha) (by show _ * 1 = i; omega), rfl, ?_⟩
    refine ⟨⟨⟨by omega, by omega⟩, len_map_le (by omega)⟩, ?_⟩
    refine ⟨_, ld (at_map hb) (by show _ * 1 = i; omega), rfl, ?_⟩
    refine ⟨fun hne => ?_, fun heq => ?_⟩
    · exact endq rfl (by rw [decide_eq_false (fun h => by rw [h, hb] at ha; cases ha; exact hne rfl)])
    · refine ⟨⟨by omega, by omega⟩, ?_⟩
      exact ⟨_, by omega, ci ⟨i + 1, _, rfl, ⟨rfl, rfl, rfl, rfl, trivial⟩, rfl, by omega, ⟨eqs_next hn.h ha hb (by omega)⟩⟩⟩
  · exact endq rfl (by rw [decide_eq_true (by have := hn.h; unfold Eqs at this; rwa [List.take_of_length_le (by omega), List.take_of_length_le (by omega)] at this)])
theorem fn21 : ctx.fn 21 = some c21 := by kernel_rfl
theorem eqs_nextM {xs ys : List (List Int)} {i : Nat} {a b : List Int} (h : xs.take i = ys.take i) (hx : xs[i]? = some a) (hy : ys[i]? = some b) (he : a = b) : xs.take (i + 1) = ys.take (i + 1) := by
  rw [List.take_add_one, List.take_add_one, hx, hy, h, he]
theorem xs_getM {xs : List (List Int)} {i : Nat} (h : i < xs.length) : ∃ e, xs[i]? = some e := ⟨xs[i], List.getElem?_eq_getElem _⟩
theorem lists_ct (hS : OldO S) {X Y : List (List Int)} (hx : X.length ≤ 1000000) (hy : Y.length ≤ 1000000) (ax : ∀ x ∈ X, x.length ≤ 1000000) (ay : ∀ x ∈ Y, x.length ≤ 1000000) :
    Ct (ctx.plus S) 21 [pM X, pM Y] 0 fun r => r = .bool (decide (X = Y)) := by
  refine ct_of (hS 21 (by decide)) fn21 ?_
  refine ⟨fun hne => ?_, fun heq => ?_⟩
  · exact endq rfl (by rw [decide_eq_false (fun h => hne (by rw [h]))])
  have hle : X.length = Y.length := by omega
  refine ⟨fun m s => ∃ (i : Nat) (T : List PV), s = ⟨T, [], 0⟩ ∧ Gt T 27 [(0, pM X), (1, pM Y), (5, pn i)] ∧ m = X.length - i ∧ i ≤ X.length ∧ Hid (X.take i = Y.take i), ⟨_, ci ⟨0, _, rfl, ⟨rfl, rfl, rfl, rfl, trivial⟩, rfl, Nat.zero_le _, ⟨rfl⟩⟩⟩, ?_⟩
  rintro _ s ⟨i, T, rfl, hT, rfl, hi, hn⟩
  obtain ⟨J, rfl⟩ := gt_open hT
  clear hT
  refine ⟨fun hlt => ?_, fun hge => ?_⟩
  · obtain ⟨a, ha⟩ := xs_getM (xs := X) (i := i) (by omega)
    obtain ⟨b, hb⟩ := xs_getM (xs := Y) (i := i) (by omega)
    refine ⟨by kernel_rfl, ?_⟩
    refine ⟨⟨⟨by omega, by omega⟩, len_map_le (by omega)⟩, ?_⟩
    refine ⟨_, ld (at_map ha) (by show _ * 1 = i; omega), rfl, ?_⟩
    refine ⟨⟨⟨by omega, by omega⟩, len_map_le (by omega)⟩, ?_⟩
    refine ⟨_, ld (at_map hb) (by show _ * 1 = i; omega), rfl, ?_⟩
    refine callq rfl (ints_ct S hS (ax _ (List.mem_of_getElem? ha)) (ay _ (List.mem_of_getElem? hb))) (by omega) ?_
    rintro _ rfl
    by_cases hab : a = b
    · rw [decide_eq_true hab]
      refine ⟨⟨by omega, by omega⟩, ?_⟩
      exact ⟨_, by omega, ci ⟨i + 1, _, rfl, ⟨rfl, rfl, rfl, rfl, trivial⟩, rfl, by omega, ⟨eqs_nextM hn.h ha hb hab⟩⟩⟩
    · rw [decide_eq_false hab]
      exact endq rfl (by rw [decide_eq_false (fun h => by rw [h, hb] at ha; cases ha; exact hab rfl)])
  · exact endq rfl (by rw [decide_eq_true (by have := hn.h; rwa [List.take_of_length_le (by omega), List.take_of_length_le (by omega)] at this)])
end Go.PI
/- ANSWERS of the program; the law of vertices. -/
open Go.Proofs
namespace Go.PI
open IM
set_option maxRecDepth 10000
set_option maxHeartbeats 4000000
variable (S : FuncId → Option (List AV → Heap → Option (AV × Heap)))
def flO (L : List (List Int × List Int)) : List PV := L.flatMap fun p => [pIs p.1, pIs p.2]
def pOs (L : List (List Int × List Int)) : PV := .lst L.length (flO L)
theorem flO_len : ∀ {L : List (List Int × List Int)}, (flO L).length = 2 * L.length
  | [] => rfl
  | p :: L => by
    have := flO_len (L := L)
    unfold flO at this ⊢
    rw [List.flatMap_cons, List.length_append, this]
    simp only [List.length_cons, List.length_nil]
    omega
theorem flO_at : ∀ {L : List (List Int × List Int)} {i q : Nat} {r u : List Int}, L[i]? = some (r, u) → q = 2 * i → ((flO L).drop q).take 2 = [pIs r, pIs u]
  | [], _, _, _, _, h, _ => by simp at h
  | p :: L, 0, _, r, u, h, hq => by
    simp at h
    subst h; subst hq
    rfl
  | p :: L, i + 1, q, r, u, h, hq => by
    have e : flO (p :: L) = pIs p.1 :: pIs p.2 :: flO L := rfl
    rw [e, hq, show 2 * (i + 1) = 2 * i + 1 + 1 by omega, List.drop_succ_cons, List.drop_succ_cons]
    exact flO_at (by simpa using h) rfl
open Classical in
/-- the error of the first one that has one -/
noncomputable def chkA : List (List Int × List Int) → Int
  | [] => 0
  | p :: L => if chkO p.1 p.2 ≠ 0 then chkO p.1 p.2 else chkA L
theorem chkA_bad : ∀ {L : List (List Int × List Int)} {i : Nat} {r u : List Int}, (∀ p ∈ L.take i, chkO p.1 p.2 = 0) → L[i]? = some (r, u) → chkO r u ≠ 0 → chkA L = chkO r u
  | [], _, _, _, _, h, _ => by simp at h
  | p :: L, 0, r, u, _, h, h2 => by
    simp at h
    subst h
    unfold chkA; rw [if_pos h2]
  | p :: L, i + 1, r, u, h0, h, h2 => by
    have := h0 p (by simp)
    unfold chkA
    rw [if_neg (fun e => e this)]
    exact chkA_bad (i := i) (fun q hq => h0 q (by simp [hq])) (by simpa using h) h2
theorem chkA_ok : ∀ {L : List (List Int × List Int)}, (∀ p ∈ L, chkO p.1 p.2 = 0) → chkA L = 0
  | [], _ => rfl
  | p :: L, h => by
    unfold chkA
    rw [if_neg (fun e => e (h p (by simp)))]
    exact chkA_ok fun q hq => h q (by simp [hq])
theorem chkA_one {r u : List Int} : chkA [(r, u)] = chkO r u := by
  unfold chkA
  by_cases h : chkO r u = 0
  · rw [if_neg (fun e => e h), h]; rfl
  · rw [if_pos h]
theorem fn63 : ctx.fn 63 = some c63 := by kernel_rfl
theorem checkAll_ct (hS : OldO S) {L : List (List Int × List Int)} (hL : L.length ≤ 10) (hl : ∀ p ∈ L, p.1.length ≤ 1000000 ∧ p.2.length ≤ 1000000) : Ct (ctx.plus S) 63 [pOs L] (6 * L.length) fun v => v = pn (chkA L) := by
  refine ct_of (hS 63 (by decide)) fn63 ?_
  refine ⟨fun m s => ∃ (i b : Nat) (σ : List StB) (T : List PV), s = ⟨T, σ, b⟩ ∧ Gt T 18 [(6, pOs L), (7, pn L.length), (8, pn i)] ∧ m = L.length - i ∧ i ≤ L.length ∧ b ≤ 6 * i ∧ Hid (∀ p ∈ L.take i, chkO p.1 p.2 = 0), ⟨_, ci ⟨0, 0, [], _, rfl, ⟨rfl, rfl, rfl, rfl, trivial⟩, rfl, Nat.zero_le _, Nat.le_refl _, ⟨fun p hp => by simp at hp⟩⟩⟩, ?_⟩
  rintro _ s ⟨i, b, σ, T, rfl, hT, rfl, hi, hb, hz⟩
  obtain ⟨J, rfl⟩ := gt_open hT
  clear hT
  refine ⟨fun hlt => ?_, fun hge => ?_⟩
  · obtain ⟨⟨r, u⟩, he⟩ : ∃ p, L[i]? = some p := ⟨L[i]'(by omega), List.getElem?_eq_getElem _⟩
    obtain ⟨l1, l2⟩ := hl _ (List.mem_of_getElem? he)
    have hfl : (flO L).length = 2 * L.length := flO_len
    refine ⟨⟨⟨by omega, by omega⟩, by rw [hfl]; show i * 2 ≤ _; omega⟩, ?_⟩
    have hat : ∀ q, q = 2 * i → partP t24 ((flO L).drop q) 0 = some (pO r u) := fun q hq => by
      show (if 0 + 2 ≤ ((flO L).drop q).length then some (PV.agg ((((flO L).drop q).drop 0).take 2)) else none) = _
      rw [if_pos (by rw [List.length_drop, hfl]; omega), List.drop_zero, flO_at he hq]
      rfl
    refine ⟨_, hat _ (by show _ * 2 = _; omega), ?_⟩
    refine ⟨by omega, ?_⟩
    refine ⟨_, _, push_get, ⟨rfl, by decide, rfl⟩, _, rfl, _, push_set, ?_⟩
    refine ⟨_, (show ploadE _ _ 24 (.optr σ.length 0) = some (pO r u) by unfold ploadE; rw [show (ctx.plus S).ty 24 = some t24 from rfl]; simp only [push_cont]; rfl), ?_⟩
    refine callq rfl (check_ct S hS l1 l2) (by omega) ?_
    rintro _ rfl
    refine ⟨fun h0 => ?_, fun h0 => ?_⟩
    · exact endq rfl (by rw [chkA_bad hz.h he h0])
    · refine ⟨⟨by omega, by omega⟩, ?_⟩
      exact ⟨_, by omega, ci ⟨i + 1, _, _, _, rfl, ⟨rfl, rfl, rfl, rfl, trivial⟩, rfl, by omega, by omega, ⟨fun p hp => by
        rw [List.take_add_one, he] at hp
        rcases List.mem_append.1 hp with hp | hp
        · exact hz.h p hp
        · simp at hp; subst hp; exact h0⟩⟩⟩
  · exact endq rfl (by rw [chkA_ok]; have := hz.h; rwa [List.take_of_length_le (by omega)] at this)
theorem fn62 : ctx.fn 62 = some c62 := by kernel_rfl
theorem answer62_ct (hS : OldO S) {r u : List Int} {chk dc g d : Nat} {e : Int} {Q : PV → Prop} (hc : Ct (ctx.plus S) chk [pOs [(r, u)]] dc fun v => v = pn e) (hq : ∀ v, Q v → cloA v = true) (hg : e = 0 → Ct (ctx.plus S) g [pO r u] d Q) :
    Ct (ctx.plus S) 62 [pO r u, .fn chk, .fn g] (2 + dc + d) fun v => (e ≠ 0 ∧ v = .tup [.lst 0 [], pn e]) ∨ (e = 0 ∧ ∃ w, Q w ∧ v = .tup [w, pn 0]) := by
  refine ct_of (hS 62 (by decide)) fn62 ?_
  refine ⟨by omega, ?_⟩
  refine ⟨_, rfl, ?_⟩
  refine ⟨by omega, partc rfl ⟨_, rfl, ?_⟩⟩
  refine cal1 (fz_own (ty := 24) rfl (Nat.le_refl 2) (Nat.le_refl _) rfl) hc (by omega) ?_
  rintro _ rfl
  refine ⟨fun h0 => ?_, fun h0 => ?_⟩
  · exact ⟨⟨[], .inl ⟨h0, rfl⟩⟩⟩
  · refine ⟨_, rfl, ?_⟩
    refine callq rfl (hg h0) (by omega) ?_
    intro w hw
    exact endsq (by simp only [cloAs, hq w hw]; rfl) (.inr ⟨h0, w, hw, rfl⟩)
theorem check1_ct (hS : OldO S) {r u : List Int} (l1 : r.length ≤ 1000000) (l2 : u.length ≤ 1000000) : Ct (ctx.plus S) 63 [pOs [(r, u)]] 6 fun v => v = pn (chkO r u) := by
  have := checkAll_ct S hS (L := [(r, u)]) (by simp) (fun p hp => by rw [List.mem_singleton.1 hp]; exact ⟨l1, l2⟩)
  rw [chkA_one] at this
  exact this
theorem nodup_PL {n : Nat} {f g : Nat → Nat} (h : IsP n f g) : (PL n f).Nodup := by
  unfold PL List.Nodup
  rw [List.pairwise_map]
  refine List.pairwise_lt_range.imp_of_mem fun {a b} ha hb hab e => ?_
  have := h.inj (List.mem_range.1 ha) (List.mem_range.1 hb) (by omega)
  omega
theorem IsO.chk {r u : List Int} {n : Nat} {f f' g g' : Nat → Nat} (h : IsO r u n f f' g g') : chkO r u = 0 := by
  obtain ⟨h0, hn, rfl, rfl, pr, pu⟩ := h
  rw [chkOu (by simp only [PL_len]; omega) (by rw [PL_len]; omega) (chk0 (inR_PL pr) (nodup_PL pr)), chk0 (inR_PL pu) (nodup_PL pu)]
theorem IsO.l1 {r u : List Int} {n : Nat} {f f' g g' : Nat → Nat} (h : IsO r u n f f' g g') : r.length = n ∧ u.length = n := by rw [h.hr, h.hu]; exact ⟨PL_len, PL_len⟩
end Go.PI
/- THE ARGUMENTS OF THE LAWS OF ORIGAMIS. -/
open Go.Proofs
namespace Go.PI
open Go.ChangeShapes Go.WideShapes Go.ChangeAt Go.RowKit
open IM
set_option maxRecDepth 100000
set_option maxHeartbeats 4000000
theorem imp_sliceF {W : World} {μ : M} {H : Heap} (h : Imp W μ H) (hn : H.n < lim) {A : Option Addr} {L C : Nat} {Z : List Int} (hLC : L ≤ C) (hZ : L ≤ Z.length) (h0 : A = none → C = 0)
    (hc : ∀ a, A = some a → ∀ c, c < L → W.cell? (a.add c) = some (.int .i64 (Z.getD c 0))) :
    ∃ μ' H' v', Imp W μ' H' ∧ M.le μ μ' ∧ (∀ B, B < H.n → H'.get B = H.get B) ∧ H.n ≤ H'.n ∧ H'.n ≤ H.n + 1 ∧ VR μ' v' (.slice A L C) ∧ Sl H' v' (Z.take L) := by
  have hlen : (Z.take L).length = L := by simp; omega
  cases A with
  | none =>
    have hC := h0 rfl
    obtain rfl : C = 0 := hC
    obtain rfl : L = 0 := by omega
    exact ⟨μ, H, .nils, h, M.le.refl _, fun _ _ => rfl, Nat.le_refl _, Nat.le_succ _, .nils, rfl⟩
  | some a =>
    by_cases hL : L = 0
    · subst hL
      exact ⟨μ, H, .sle, h, M.le.refl _, fun _ _ => rfl, Nat.le_refl _, Nat.le_succ _, .sle _ _, rfl⟩
    · have ha := cell_zero (hc a rfl 0 (by omega))
      have hc' : ∀ c, c < L → W.cell? (Addr.add ⟨a.block, a.off, none⟩ c) = some (.int .i64 (Z.getD c 0)) := fun c hcl => by rw [← ha]; exact hc a rfl c hcl
      obtain ⟨carr, ty, fz, hb, -⟩ := cell_row (hc' 0 (by omega))
      have hlt : a.block < W.heap.size := by
        rcases Nat.lt_or_ge a.block W.heap.size with h1 | h1
        · exact h1
        · rw [Array.getElem?_eq_none h1] at hb; cases hb
      have hp := fun b => Heap.get_push (H := H) (b := b) hn
      · have hcells : ∀ c, c < L → carr[a.off + c]? = some (.int .i64 (Z.getD c 0)) := fun c hcl => by
          obtain ⟨carr2, ty2, fz2, hb2, hv⟩ := cell_row (hc' c hcl)
          rw [hb] at hb2
          cases hb2
          exact hv
        have hsz : a.off + L ≤ carr.size := by
          have := hcells (L - 1) (by omega)
          have := (Array.getElem?_eq_some_iff.1 this).1
          omega
        obtain ⟨cs, hcs⟩ : ∃ cs, cs = (carr.toList.take a.off).map AV.raw ++ ints (Z.take L) := ⟨_, rfl⟩
        have hcl : cs.length = a.off + L := by rw [hcs, List.length_append, List.length_map, List.length_take, ints_length, hlen, Array.length_toList]; omega
        have hvs : ∀ ν : M, VRs ν cs (carr.toList.take cs.length) := fun ν => by
          rw [hcl, hcs]
          have e : carr.toList.take (a.off + L) = carr.toList.take a.off ++ (carr.toList.drop a.off).take L := by rw [List.take_add]
          rw [e]
          refine All2.append (anys ν _) ?_
          have e2 : (carr.toList.drop a.off).take L = (Z.take L).map (Value.int .i64) := by
            apply List.ext_getElem?
            intro i
            by_cases hi : i < L
            · rw [List.getElem?_take, if_pos hi, List.getElem?_drop, Array.getElem?_toList, hcells i hi, List.getElem?_map, List.getElem?_take, if_pos hi]
              rw [List.getD_eq_getElem?_getD, List.getElem?_eq_getElem (by omega)]
              simp
            · rw [List.getElem?_take, if_neg hi, List.getElem?_map, List.getElem?_take, if_neg hi]; rfl
          rw [e2]
          generalize Z.take L = xs
          induction xs with
          | nil => exact .nil
          | cons x xs ih => exact .cons (.int _ _) ih
        obtain ⟨h1, h2⟩ := h.push hn (bi := ⟨a.block, carr.size, 0⟩) (b := .cells false ty cs) rfl (fun _ => ⟨hlt, blk0 rfl ⟨carr, fz, hb, rfl, by omega, hvs _, fun e => by cases e⟩⟩)
        refine ⟨_, _, .sl H.n a.off L C, h1, h2, fun B hB => by rw [hp, if_neg (by omega)], Nat.le_succ _, Nat.le_refl _, ?_, ⟨hlen.symm, false, ty, cs, by rw [hp, if_pos rfl], by omega, ?_⟩⟩
        · rw [ha]
          exact VR.sl0 (M.set_self _ _ _)
        · rw [hcs, List.drop_append, List.drop_of_length_le (by simp; omega), List.length_map, List.length_take, Array.length_toList, Nat.min_eq_left (by omega), Nat.sub_self, List.drop_zero, List.nil_append, List.take_of_length_le (by rw [ints_length]; omega)]
def CpX (v : AV) : Prop :=
  match v with
  | .sl _ _ l c => l ≤ c
  | _ => True
theorem nc24 : Try.prog.cellsOf 24 = 2 := by kernel_rfl
theorem nc22 : Try.prog.cellsOf 22 = 1 := by kernel_rfl
theorem nc3' : Try.prog.cellsOf 3 = 1 := by kernel_rfl
theorem cp_ofX {μ : M} {v : AV} {A : Option Addr} {L C : Nat} (h : VR μ v (.slice A L C)) (hLC : L ≤ C) : CpX v := by
  cases h <;> first | exact hLC | trivial
theorem rel_ints {H : Heap} {W : Nat → Prop} : ∀ (xs : List Int), All2 (RelC H W) (xs.map pn) (ints xs)
  | [] => .nil
  | x :: xs => .cons (.int _ _) (rel_ints xs)
theorem rel_of_sl {H : Heap} {x : AV} {xs : List Int} (h : Sl H x xs) (hc : CpX x) : RelC H (fun _ => False) (pIs xs) x := by
  have hr : ∀ {cs : List AV} {o : Nat}, (cs.drop o).take xs.length = ints xs → All2 (RelC H fun _ => False) (xs.map pn) ((cs.drop o).take (xs.map pn).length) := fun h => by
    rw [List.length_map, h]
    exact rel_ints xs
  unfold Sl at h
  split at h
  · subst h; exact .lnil
  · subst h; exact .lsle
  · obtain ⟨rfl, rw, ty, cs, h1, h2, h3⟩ := h
    exact .sl (fun h => h) h1 (by rw [List.length_map]; exact h2) hc (hr h3)
  · obtain ⟨rfl, rfl, rw, ty, cs, h1, h2, h3⟩ := h
    exact .slu (fun h => h) h1 (by rw [List.length_map]; exact h2) ⟨by simp, fun _ => rfl⟩ (hr h3)
  · exact h.elim
theorem imp_intsF {H : Type} {enc : TypeId × Value → H} {W : World} {μ : M} {Hp : Heap} (h : Imp W μ Hp) (hn : Hp.n + 2 < lim) {fuel : Nat} {v : Value} {y : DataW H × List MemPlace}
    (h1 : DataW.trod enc Try.prog W 0 (fun _ => true) true fuel 22 [v] = some y) :
    ∃ (μ' : M) (H' : Heap) (b : AV) (xs : List Int), Imp W μ' H' ∧ M.le μ μ' ∧ (∀ B, B < Hp.n → H'.get B = Hp.get B) ∧ Hp.n ≤ H'.n ∧ H'.n ≤ Hp.n + 1 ∧ VR μ' b v ∧ Sl H' b xs ∧ CpX b := by
  have hm : maxLen = 9223372036854775807 := rfl
  rcases open_ints Try.underlying22 Try.underlying3 nc3' h1 with ⟨hcs, -⟩ | ⟨a, len, cap, zs, hcs, -, hl, hc, hz, -, hcell, hwf⟩
  · obtain rfl : v = .slice none 0 0 := by simpa using hcs
    exact ⟨μ, Hp, .nils, [], h, M.le.refl _, fun _ _ => rfl, Nat.le_refl _, by omega, .nils, rfl, trivial⟩
  · obtain rfl : v = .slice (some a) len cap := by simpa using hcs
    simp only [if_true] at hz
    obtain ⟨μ', H', v', g1, g2, g3, g4, g5, g6, g7⟩ := imp_sliceF (A := some a) (L := len) (C := cap) (Z := zs) h (by omega) hl (by omega) (fun e => by cases e) (fun a' ha' c hcl => by
      cases ha'
      exact hcell c (by omega))
    exact ⟨μ', H', v', _, g1, g2, g3, g4, g5, g6, g7, cp_ofX g6 hl⟩
theorem rows_struct {H : Type} {enc : TypeId × Value → H} {P : Program} {w : World} {base : Nat} {spare : Nat → Bool} {held : Bool} {t : TypeId} {f0 f1 : Field} {fuel : Nat} {cs : List Value} {x : DataW H × List MemPlace} (ht : P.underlying t = some (.struct #[f0, f1])) (h : DataW.trod enc P w base spare held fuel t cs = some x) :
    ∃ y0 y1 n, cs.length = P.cellsOf t ∧ DataW.trod enc P w base spare held n f0.type ((cs.drop f0.offset).take (P.cellsOf f0.type)) = some y0 ∧ DataW.trod enc P w base spare held n f1.type ((cs.drop f1.offset).take (P.cellsOf f1.type)) = some y1 := by
  obtain ⟨xs, n, _, rfl, hl, hlen, hf⟩ := DataW.trod_struct ht h
  match xs, hlen with
  | [y0, y1], _ => exact ⟨y0, y1, n, hl, by simpa using hf 0 f0 rfl, by simpa using hf 1 f1 rfl⟩
theorem rel_up {H H' : Heap} {p : PV} {a : AV} (h : RelC H (fun _ => False) p a) (k : ∀ A, A < H.n → H'.get A = H.get A) : RelC H' (fun _ => False) p a := h.mono (fun A hA _ => k A hA) (fun _ _ h => h)
theorem imp_orig {H : Type} {enc : TypeId × Value → H} {W : World} {μ : M} {Hp : Heap} (h : Imp W μ Hp) (hn : Hp.n + 6 < lim) {fuel : Nat} {cs : Array Value} {y : DataW H × List MemPlace}
    (h0 : DataW.trod enc Try.prog W 0 (fun _ => true) true fuel 24 cs.toList = some y) :
    ∃ (μ' : M) (H' : Heap) (a : AV) (xs ys : List Int), Imp W μ' H' ∧ M.le μ μ' ∧ (∀ B, B < Hp.n → H'.get B = Hp.get B) ∧ Hp.n ≤ H'.n ∧ H'.n ≤ Hp.n + 2 ∧ VR μ' a (.agg cs) ∧ RelC H' (fun _ => False) (pO xs ys) a := by
  obtain ⟨y0, y1, n, hl, t0, t1⟩ := rows_struct Try.underlying24 h0
  rw [nc24] at hl
  obtain ⟨v0, v1, hcs⟩ : ∃ v0 v1, cs.toList = [v0, v1] := by
    match h : cs.toList, hl with
    | [a, b], _ => exact ⟨a, b, rfl⟩
  rw [hcs] at t0 t1
  simp only [nc22, List.drop, List.take] at t0 t1
  obtain ⟨μ1, H1, a, xs, i1, le1, k1, n1, m1, va, sa, ca⟩ := imp_intsF h (by omega) t0
  obtain ⟨μ2, H2, b, ys, i2, le2, k2, n2, m2, vb, sb, cb⟩ := imp_intsF i1 (by omega) t1
  refine ⟨μ2, H2, .agg [a, b], xs, ys, i2, le1.trans le2, fun B hB => by rw [k2 B (by omega), k1 B hB], by omega, by omega, .agg (by rw [hcs]; exact .cons (va.mono le2) (.cons vb .nil)), ?_⟩
  exact .agg (.cons (rel_up (rel_of_sl sa ca) k2) (.cons (rel_of_sl sb cb) .nil))
theorem law_calls {W : World} {μ : M} {H : Heap} {f : FuncId} {c : FI} (hf : ctxA.fn f = some c) (i : Imp W μ H) {args : Array Value} {avs : List AV} {ps : List PV} {d : Nat} (hv : VRs μ avs args.toList) (hr : All2 (RelC H fun _ => False) ps avs) (hd : H.n + d < lim)
    (hct : Ct ctxA f ps d fun r => r = .bool true) : Calls Try.prog f args W fun e w' => e = .returned (.bool true) ∧ Below W.heap.size W w' := by
  have law : Cl ctxA f avs H fun r _ => r = .bool true := by
    refine (hct H (fun _ => False) avs (fun b h => h.elim) hr hd).mono ?_
    rintro r H' ⟨q, rfl, hq, -⟩
    cases hq
    rfl
  obtain ⟨k, r, H', hc, rfl⟩ := law
  have hC := ctxA_fine
  rcases callF_sim hC (sound hC k) hc (args := args) hv i.hr with ⟨u, w', hrun, -⟩ | ⟨-, hcalls⟩
  · exfalso
    obtain ⟨fn', f1, f2, f3, f4, f5⟩ := hC.fn f _ hf
    have f5' : ¬ fn'.name = "runtime.NumGoroutine" := by simpa using f5
    simp [callFunc, f1, f5', f4] at hrun
  · have hw : Calls Try.prog f args W fun e w' => ∃ u, e = .returned u ∧ EffR μ H W (.bool true) H' u w' := callsIn_wide.1 (hcalls Fence.wide 0 ⟨fun _ => trivial, rfl, rfl⟩)
    refine hw.mono ?_
    rintro e w' ⟨u, rfl, hE⟩
    refine ⟨?_, below_of i.no hE⟩
    obtain ⟨μ', hv, -⟩ := hE
    rw [hv.bool_inv]
theorem orig_calls {H : Type} {enc : TypeId × Value → H} {W : World} {f : FuncId} {c : FI} (hf : ctxA.fn f = some c) {d : Nat} (hd : d < 100000000000) (hct : ∀ r u, Ct ctxA f [pO r u] d fun v => v = .bool true) {fu : Nat} {cs : Array Value} {y : DataW H × List MemPlace}
    (h0 : DataW.trod enc Try.prog W 0 (fun _ => true) true fu 24 cs.toList = some y) : Calls Try.prog f #[.agg cs] W fun e w' => e = .returned (.bool true) ∧ Below W.heap.size W w' := by
  have hz : (⟨0, .nil⟩ : Heap).n = 0 := rfl
  have hlim : lim > 200000000000 := by unfold lim; omega
  obtain ⟨μ1, H1, a, xs, ys, i1, le1, k1, n1, m1, va, ra⟩ := imp_orig (imp0 W) (by omega) h0
  exact law_calls hf i1 (.cons va .nil) (.cons ra .nil) (by omega) (hct xs ys)
end Go.PI
