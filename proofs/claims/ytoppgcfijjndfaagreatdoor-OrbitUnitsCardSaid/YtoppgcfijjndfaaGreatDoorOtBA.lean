/- Own work of the verifier: OrWa OrWb. -/
import Derived.Test.YtoppgcfijjndfaaGreatDoorOtAX
import Derived.Test.YtoppgcfijjndfaaGreatDoorOtAZ
set_option linter.all false
set_option exponentiation.threshold 3000
set_option linter.deprecated false
/- MATRICES of letters, their products. -/
open Go.Proofs
namespace Go.PI
open IM
set_option maxRecDepth 10000
set_option maxHeartbeats 4000000
variable (S : FuncId → Option (List AV → Heap → Option (AV × Heap)))
structure Mt where
  A : Int
  B : Int
  C : Int
  D : Int
def pU (m : Mt) : PV := .agg [pn m.A, pn m.B, pn m.C, pn m.D]
abbrev In6 (x : Int) : Prop := -1000000 ≤ x ∧ x ≤ 1000000
structure Mt.Sm (m : Mt) : Prop where
  a : In6 m.A
  b : In6 m.B
  c : In6 m.C
  d : In6 m.D
def Mt.mul (a b : Mt) : Mt := ⟨a.A * b.A + a.B * b.C, a.A * b.B + a.B * b.D, a.C * b.A + a.D * b.C, a.C * b.B + a.D * b.D⟩
def Mt.zero : Mt := ⟨0, 0, 0, 0⟩
def Mt.one : Mt := ⟨1, 0, 0, 1⟩
def Mt.of (b : Nat) : Mt := if b = 83 then ⟨0, -1, 1, 0⟩ else if b = 115 then ⟨0, 1, -1, 0⟩ else if b = 84 then ⟨1, 1, 0, 1⟩ else ⟨1, -1, 0, 1⟩
theorem mul6 {x y : Int} (hx : In6 x) (hy : In6 y) : -1000000000000 ≤ x * y ∧ x * y ≤ 1000000000000 := by
  have h1 : (x * y).natAbs ≤ 1000000 * 1000000 := by
    rw [Int.natAbs_mul]
    exact Nat.mul_le_mul (by omega) (by omega)
  omega
theorem sm_of (b : Nat) : (Mt.of b).Sm := by
  unfold Mt.of
  split
  · exact ⟨by decide, by decide, by decide, by decide⟩
  split
  · exact ⟨by decide, by decide, by decide, by decide⟩
  split
  · exact ⟨by decide, by decide, by decide, by decide⟩
  · exact ⟨by decide, by decide, by decide, by decide⟩
theorem sm_one : Mt.one.Sm := ⟨by decide, by decide, by decide, by decide⟩
theorem fn158 : ctx.fn 158 = some c158 := by kernel_rfl
theorem owithin_ct (hS : OldO S) {n a b : Int} : Ct (ctx.plus S) 158 [pn n, pn a, pn b] 0 fun r => r = .bool (decide (a ≤ n ∧ n ≤ b)) := by
  refine ct_of (hS 158 (by decide)) fn158 ?_
  refine ⟨fun h1 => ?_, fun h1 => ?_⟩
  · refine ⟨fun h2 => ?_, fun h2 => ?_⟩
    · exact endq rfl (by rw [decide_eq_true ⟨by omega, by omega⟩])
    · exact endq rfl (by rw [decide_eq_false (by omega)])
  · exact endq rfl (by rw [decide_eq_false (by omega)])
theorem fn172 : ctx.fn 172 = some c172 := by kernel_rfl
theorem big_ct (hS : OldO S) {x : Int} : Ct (ctx.plus S) 172 [pn x] 0 fun r => r = .bool (!decide (In6 x)) := by
  refine ct_of (hS 172 (by decide)) fn172 ?_
  refine callq rfl (owithin_ct S hS) (by omega) ?_
  rintro _ rfl
  by_cases h : In6 x
  · rw [decide_eq_true (show -1000000 ≤ x ∧ x ≤ 1000000 from h)]
    exact endq rfl rfl
  · rw [decide_eq_false (show ¬ (-1000000 ≤ x ∧ x ≤ 1000000) from h)]
    exact endq rfl rfl
/-- the first element that fits, of a function without captures -/
theorem indexFn_ct (hS : OldO S) {xs : List Int} {g : Nat} {P : Int → Bool} (hl : xs.length ≤ 1000000) (hg : ∀ x ∈ xs, Ct (ctx.plus S) g [pn x] 0 fun r => r = .bool (P x)) :
    Ct (ctx.plus S) 196 [pIs xs, .fn g] 0 fun r => ∃ v : Int, r = pn v ∧ (0 ≤ v ↔ ∃ x ∈ xs, P x = true) := by
  refine ct_of (hS 196 (by decide)) fn196 ?_
  refine ⟨fun m s => ∃ (i : Nat) (T : List PV), s = ⟨T, [], 0⟩ ∧ Gt T 19 [(0, pIs xs), (1, .fn g), (7, pn xs.length), (8, pn i)] ∧ m = xs.length - i ∧ i ≤ xs.length ∧ Hid (∀ x ∈ xs.take i, P x = false), ⟨_, ci ⟨0, _, rfl, ⟨rfl, rfl, rfl, rfl, rfl, trivial⟩, rfl, Nat.zero_le _, ⟨fun x hx => by simp at hx⟩⟩⟩, ?_⟩
  rintro _ s ⟨i, T, rfl, hT, rfl, hi, hn⟩
  obtain ⟨J, rfl⟩ := gt_open hT
  clear hT
  refine ⟨fun hlt => ?_, fun hge => ?_⟩
  · obtain ⟨e, he⟩ := xs_get (xs := xs) (i := i) (by omega)
    have hm := List.mem_of_getElem? he
    refine ⟨⟨⟨by omega, by omega⟩, len_map_le (by omega)⟩, ?_⟩
    refine ⟨_, ld (at_map he) (by show _ * 1 = i; omega), ?_⟩
    refine callq rfl (hg e hm) (by omega) ?_
    rintro _ rfl
    cases hp : P e with
    | true => exact endq rfl ⟨i, rfl, fun _ => ⟨e, hm, hp⟩, fun _ => by omega⟩
    | false =>
      refine ⟨⟨by omega, by omega⟩, ?_⟩
      exact ⟨_, by omega, ci ⟨i + 1, _, rfl, ⟨rfl, rfl, rfl, rfl, rfl, trivial⟩, rfl, by omega, ⟨fun x hx => by
        rw [take_snoc he] at hx
        rcases List.mem_append.1 hx with hx | hx
        · exact hn.h x hx
        · rw [List.mem_singleton.1 hx]; exact hp⟩⟩⟩
  · refine endq rfl ⟨-1, rfl, fun h => by omega, fun ⟨x, hx, hp⟩ => ?_⟩
    have := hn.h x (by rw [List.take_of_length_le (by omega)]; exact hx)
    rw [hp] at this
    cases this
theorem containsFn_ct (hS : OldO S) {xs : List Int} {g : Nat} {P : Int → Bool} (hl : xs.length ≤ 1000000) (hg : ∀ x ∈ xs, Ct (ctx.plus S) g [pn x] 0 fun r => r = .bool (P x)) :
    Ct (ctx.plus S) 151 [pIs xs, .fn g] 0 fun r => ((∃ x ∈ xs, P x = true) ∧ r = .bool true) ∨ ((∀ x ∈ xs, P x = false) ∧ r = .bool false) := by
  refine ct_of (hS 151 (by decide)) fn151 ?_
  refine callq rfl (indexFn_ct S hS hl hg) (by omega) ?_
  rintro _ ⟨v, rfl, hv⟩
  refine ⟨fun h => ?_, fun h => ?_⟩
  · exact endq rfl (.inl ⟨hv.1 h, rfl⟩)
  · exact endq rfl (.inr ⟨fun x hx => by
      cases hp : P x with
      | false => rfl
      | true => exact absurd (hv.2 ⟨x, hx, hp⟩) (by omega), rfl⟩)
theorem fn122 : ctx.fn 122 = some c122 := by kernel_rfl
theorem isSmall_ct (hS : OldO S) {m : Mt} : Ct (ctx.plus S) 122 [pU m] 5 fun r => (m.Sm ∧ r = .bool true) ∨ (¬ m.Sm ∧ r = .bool false) := by
  refine ct_of (hS 122 (by decide)) fn122 ?_
  refine ⟨by omega, ?_⟩
  refine ⟨_, rfl, ?_⟩
  refine ⟨_, rfl, ?_⟩
  refine ⟨_, rfl, ?_⟩
  refine ⟨_, rfl, ?_⟩
  refine ⟨by omega, part4 fzI fzI fzI fzI ⟨[m.A, m.B, m.C, m.D].map pn, rfl, ?_⟩⟩
  refine cal2 (fz_own (cs' := [m.A, m.B, m.C, m.D].map pn) rfl (Nat.le_refl 4) (Nat.le_refl 4) rfl) (fun _ h => h) (containsFn_ct S hS (xs := [m.A, m.B, m.C, m.D]) (P := fun x => !decide (In6 x)) (by show 4 ≤ _; decide) fun x _ => big_ct S hS) (by omega) ?_
  rintro _ (⟨⟨x, hx, hp⟩, rfl⟩ | ⟨h, rfl⟩)
  · refine endq rfl (.inr ⟨fun hs => ?_, rfl⟩)
    have hx6 : ¬ In6 x := by simp only [Bool.not_eq_true', decide_eq_false_iff_not] at hp; exact hp
    simp only [List.mem_cons, List.not_mem_nil, or_false] at hx
    rcases hx with rfl | rfl | rfl | rfl
    · exact hx6 hs.a
    · exact hx6 hs.b
    · exact hx6 hs.c
    · exact hx6 hs.d
  · have h6 : ∀ x ∈ [m.A, m.B, m.C, m.D], In6 x := fun x hx => by have hp := h x hx; simp only [Bool.not_eq_false', decide_eq_true_eq] at hp; exact hp
    exact endq rfl (.inl ⟨⟨h6 _ (by simp), h6 _ (by simp), h6 _ (by simp), h6 _ (by simp)⟩, rfl⟩)
theorem fn81 : ctx.fn 81 = some c81 := by kernel_rfl
theorem times_ct (hS : OldO S) {a b : Mt} (ha : a.Sm) (hb : b.Sm) : Ct (ctx.plus S) 81 [pU a, pU b] 20 fun r => ((a.mul b).Sm ∧ r = .tup [pU (a.mul b), pn 0]) ∨ (¬ (a.mul b).Sm ∧ r = .tup [pU .zero, pn 8]) := by
  have p1 := mul6 ha.a hb.a
  have p2 := mul6 ha.b hb.c
  have p3 := mul6 ha.a hb.b
  have p4 := mul6 ha.b hb.d
  have p5 := mul6 ha.c hb.a
  have p6 := mul6 ha.d hb.c
  have p7 := mul6 ha.c hb.b
  have p8 := mul6 ha.d hb.d
  refine ct_of (hS 81 (by decide)) fn81 ?_
  refine ⟨by omega, by omega, by omega, ?_⟩
  refine ⟨_, rfl, ?_⟩
  refine ⟨_, rfl, ?_⟩
  refine ⟨⟨by omega, by omega⟩, ?_⟩
  refine ⟨_, rfl, ?_⟩
  refine ⟨_, rfl, ?_⟩
  refine ⟨⟨by omega, by omega⟩, ?_⟩
  refine ⟨⟨by omega, by omega⟩, ?_⟩
  refine ⟨_, rfl, ?_⟩
  refine ⟨_, rfl, ?_⟩
  refine ⟨⟨by omega, by omega⟩, ?_⟩
  refine ⟨_, rfl, ?_⟩
  refine ⟨_, rfl, ?_⟩
  refine ⟨⟨by omega, by omega⟩, ?_⟩
  refine ⟨⟨by omega, by omega⟩, ?_⟩
  refine ⟨_, rfl, ?_⟩
  refine ⟨_, rfl, ?_⟩
  refine ⟨⟨by omega, by omega⟩, ?_⟩
  refine ⟨_, rfl, ?_⟩
  refine ⟨_, rfl, ?_⟩
  refine ⟨⟨by omega, by omega⟩, ?_⟩
  refine ⟨⟨by omega, by omega⟩, ?_⟩
  refine ⟨_, rfl, ?_⟩
  refine ⟨_, rfl, ?_⟩
  refine ⟨⟨by omega, by omega⟩, ?_⟩
  refine ⟨_, rfl, ?_⟩
  refine ⟨_, rfl, ?_⟩
  refine ⟨⟨by omega, by omega⟩, ?_⟩
  refine ⟨⟨by omega, by omega⟩, ?_⟩
  refine partc rfl ⟨_, rfl, ?_⟩
  refine ⟨by omega, ?_⟩
  refine ⟨_, _, rfl, ⟨rfl, Nat.le_refl 4, rfl⟩, _, rfl, _, rfl, ?_⟩
  refine ⟨_, rfl, ?_⟩
  refine callq rfl (isSmall_ct S hS (m := a.mul b)) (by omega) ?_
  rintro _ (⟨h, rfl⟩ | ⟨h, rfl⟩)
  · refine ⟨_, rfl, ?_⟩
    refine ⟨_, _, rfl, ⟨rfl, Nat.le_refl 4, rfl⟩, _, rfl, _, rfl, ?_⟩
    exact ⟨_, rfl, endsq rfl (.inl ⟨h, rfl⟩)⟩
  · refine partc rfl ⟨_, rfl, ?_⟩
    refine ⟨_, _, rfl, ⟨rfl, Nat.le_refl 4, rfl⟩, _, rfl, _, rfl, ?_⟩
    exact ⟨_, rfl, endsq rfl (.inr ⟨h, rfl⟩)⟩
/-- the matrices of the letters, as the program keeps them -/
def LMs : List (Int × PV) := [(83, pU (Mt.of 83)), (84, pU (Mt.of 84)), (115, pU (Mt.of 115)), (116, pU (Mt.of 116))]
theorem lm_some {b : Nat} {v : PV} (h : pmapGet LMs b = some v) : IsLet b ∧ v = pU (Mt.of b) := by
  unfold LMs at h
  simp only [pmapGet] at h
  split at h
  · rename_i e
    have : b = 83 := by simp at e; omega
    subst this
    cases h
    exact ⟨.inl rfl, rfl⟩
  split at h
  · rename_i e
    have : b = 84 := by simp at e; omega
    subst this
    cases h
    exact ⟨.inr (.inr (.inl rfl)), rfl⟩
  split at h
  · rename_i e
    have : b = 115 := by simp at e; omega
    subst this
    cases h
    exact ⟨.inr (.inl rfl), rfl⟩
  split at h
  · rename_i e
    have : b = 116 := by simp at e; omega
    subst this
    cases h
    exact ⟨.inr (.inr (.inr rfl)), rfl⟩
  · cases h
theorem lm_none {b : Nat} (h : pmapGet LMs b = none) : ¬ IsLet b := by
  rintro (rfl | rfl | rfl | rfl)
  · cases h
  · cases h
  · cases h
  · cases h
theorem fn75 : ctx.fn 75 = some c75 := by kernel_rfl
theorem letters_cm (hS : OldO S) {σ : List StB} : Cm (ctx.plus S) 75 [] σ 1 fun w σ' => w = .omap σ.length ∧ σ' = σ ++ [.mp .u8 LMs] := by
  refine cm_of Opn.no (hS 75 (by decide)) fn75 fun c k0 hc => ?_
  refine ⟨by omega, ?_⟩
  refine partc rfl ⟨_, rfl, ?_⟩
  refine ⟨[], _, ⟨rfl, push_get⟩, rfl, _, push_set, ?_⟩
  refine partc rfl ⟨_, rfl, ?_⟩
  refine ⟨_, _, ⟨rfl, push_get⟩, rfl, _, push_set, ?_⟩
  refine partc rfl ⟨_, rfl, ?_⟩
  refine ⟨_, _, ⟨rfl, push_get⟩, rfl, _, push_set, ?_⟩
  refine partc rfl ⟨_, rfl, ?_⟩
  refine ⟨_, _, ⟨rfl, push_get⟩, rfl, _, push_set, ?_⟩
  exact endm [] (by dsimp only; omega) ⟨rfl, rfl⟩
/-- the letters of a text -/
def wl (s : ByteArray) : List Nat := s.data.toList.map UInt8.toNat
theorem wl_len {s : ByteArray} : (wl s).length = s.size := by unfold wl; rw [List.length_map]; rfl
theorem wl_at {s : ByteArray} {i : Nat} (h : i < s.size) : ∃ b, s[i]? = some b ∧ (wl s)[i]? = some b.toNat := by
  have h2 : i < s.data.toList.length := h
  refine ⟨s[i], getElem?_pos s i h, ?_⟩
  unfold wl
  rw [List.getElem?_map, List.getElem?_eq_getElem h2]
  rfl
open Classical in
/-- what is to be said of a text as a word -/
noncomputable def chkW (s : ByteArray) : Int := if 200 < s.size then 8 else if ∀ b ∈ wl s, IsLet b then 0 else 7
theorem chkW8 {s : ByteArray} (h : 200 < s.size) : chkW s = 8 := by unfold chkW; rw [if_pos h]
theorem chkW7 {s : ByteArray} (h : ¬ 200 < s.size) {b : Nat} (hb : b ∈ wl s) (hn : ¬ IsLet b) : chkW s = 7 := by unfold chkW; rw [if_neg h, if_neg fun ha => hn (ha b hb)]
theorem chkW0 {s : ByteArray} (h : ¬ 200 < s.size) (ha : ∀ b ∈ wl s, IsLet b) : chkW s = 0 := by unfold chkW; rw [if_neg h, if_pos ha]
theorem chkW_ok {s : ByteArray} (h : chkW s = 0) : s.size ≤ 200 ∧ ∀ b ∈ wl s, IsLet b := by
  unfold chkW at h
  split at h
  · cases h
  · split at h
    · exact ⟨by omega, ‹_›⟩
    · cases h
theorem take_sn {xs : List Nat} {i x : Nat} (h : xs[i]? = some x) : xs.take (i + 1) = xs.take i ++ [x] := by rw [List.take_add_one, h]; rfl
theorem fn18 : ctx.fn 18 = some c18 := by kernel_rfl
theorem checkWord_ct (hS : OldO S) {s : ByteArray} (hs : s.size ≤ 1000000) : Ct (ctx.plus S) 18 [.str s] 300 fun r => r = pn (chkW s) := by
  refine ct_of (hS 18 (by decide)) fn18 ?_
  refine ⟨fun h => ?_, fun h => ?_⟩
  · exact endq rfl (by rw [chkW8 (by omega)])
  refine callm (letters_cm S hS) (by omega) ?_
  rintro _ _ ⟨rfl, rfl⟩
  refine ⟨fun q st => ∃ (i b : Nat) (σ : List StB) (T : List PV), st = ⟨T, σ, b⟩ ∧ Gt T 27 [(0, .str s), (3, .omap 0), (12, pn s.size), (13, pn i)] ∧ q = s.size - i ∧ i ≤ s.size ∧ b ≤ 1 + i ∧ Hid (σ[0]? = some (.mp .u8 LMs) ∧ ∀ x ∈ (wl s).take i, IsLet x), ⟨_, ci ⟨0, _, _, _, rfl, ⟨rfl, rfl, rfl, rfl, rfl, trivial⟩, rfl, Nat.zero_le _, Nat.le_refl _, ⟨rfl, fun x hx => by simp at hx⟩⟩⟩, ?_⟩
  rintro _ st ⟨i, b, σ, T, rfl, hT, rfl, hi, hb, hh⟩
  obtain ⟨J, rfl⟩ := gt_open hT
  clear hT
  refine ⟨fun hlt => ?_, fun hge => ?_⟩
  · obtain ⟨x, hx, hx2⟩ := wl_at (s := s) (i := i) (by omega)
    refine ⟨by omega, x, hx, ?_⟩
    refine ⟨LMs, ⟨rfl, hh.h.1⟩, fun v hv => ?_, fun hv => ?_⟩
    · obtain ⟨hl, rfl⟩ := lm_some hv
      refine ⟨by omega, ?_⟩
      refine ⟨_, _, push_get, ⟨rfl, Nat.le_refl 4, rfl⟩, _, rfl, _, rfl, ?_⟩
      refine ⟨⟨by omega, by omega⟩, ?_⟩
      exact ⟨_, by omega, ci ⟨i + 1, _, _, _, rfl, ⟨rfl, rfl, rfl, rfl, rfl, trivial⟩, rfl, by omega, by omega, ⟨by
        have h0 := hh.h.1
        have := (List.getElem?_eq_some_iff.1 h0).1
        rw [List.getElem?_set_ne (by omega)]
        exact push_old h0, fun y hy => by
        rw [take_sn hx2] at hy
        rcases List.mem_append.1 hy with hy | hy
        · exact hh.h.2 y hy
        · rw [List.mem_singleton.1 hy]; exact hl⟩⟩⟩
    · have hn := lm_none hv
      refine ⟨by omega, ?_⟩
      refine ⟨_, _, push_get, ⟨rfl, Nat.le_refl 4, rfl⟩, _, rfl, _, rfl, ?_⟩
      exact endq rfl (by rw [chkW7 (by omega) (List.mem_of_getElem? hx2) hn])
  · exact endq rfl (by
      rw [chkW0 (by omega) fun x hx => hh.h.2 x (by rw [List.take_of_length_le (by rw [wl_len]; omega)]; exact hx)])
/-- the matrices of the beginnings of a word -/
def matF : Mt → List Nat → Option Mt
  | m, [] => some m
  | m, b :: w => if In6 (m.mul (.of b)).A ∧ In6 (m.mul (.of b)).B ∧ In6 (m.mul (.of b)).C ∧ In6 (m.mul (.of b)).D then matF (m.mul (.of b)) w else none
theorem matF_yes {m : Mt} {b : Nat} {w : List Nat} (h : (m.mul (.of b)).Sm) : matF m (b :: w) = matF (m.mul (.of b)) w := by
  show (if _ then _ else _) = _
  rw [if_pos ⟨h.a, h.b, h.c, h.d⟩]
theorem matF_no {m : Mt} {b : Nat} {w : List Nat} (h : ¬ (m.mul (.of b)).Sm) : matF m (b :: w) = none := by
  show (if _ then _ else _) = _
  rw [if_neg fun ⟨h1, h2, h3, h4⟩ => h ⟨h1, h2, h3, h4⟩]
/-- what is answered -/
def matA : Option Mt → PV
  | some m => .tup [pU m, pn 0]
  | none => .tup [pU .zero, pn 8]
theorem drop_at {xs : List Nat} {i x : Nat} (h : xs[i]? = some x) : xs.drop i = x :: xs.drop (i + 1) := by
  obtain ⟨h1, h2⟩ := List.getElem?_eq_some_iff.1 h
  rw [List.drop_eq_getElem_cons h1, h2]
theorem fn70 : ctx.fn 70 = some c70 := by kernel_rfl
theorem matrix_ct (hS : OldO S) {s : ByteArray} (hs : s.size ≤ 200) (hl : ∀ b ∈ wl s, IsLet b) : Ct (ctx.plus S) 70 [.str s] 5000 fun r => r = matA (matF .one (wl s)) := by
  refine ct_of (hS 70 (by decide)) fn70 ?_
  refine ⟨by omega, ?_⟩
  refine callm (letters_cm S hS) (by omega) ?_
  rintro _ _ ⟨rfl, rfl⟩
  refine partc rfl ⟨_, rfl, ?_⟩
  refine ⟨by omega, ?_⟩
  refine ⟨_, _, push_get, ⟨rfl, Nat.le_refl 4, rfl⟩, _, rfl, _, rfl, ?_⟩
  refine ⟨fun q st => ∃ (i b : Nat) (m : Mt) (e : Int) (T : List PV), st = ⟨T, [.live 24 [pn 0, pn 0, pn 0, pn 0], .mp .u8 LMs, .live 24 [pn m.A, pn m.B, pn m.C, pn m.D]], b⟩ ∧ Gt T 32 [(0, .str s), (2, .optr 0 0), (4, .omap 1), (5, .optr 2 0), (6, pn e), (7, pn i)] ∧ q = s.size - i ∧ i ≤ s.size ∧ b ≤ 5 + 20 * i ∧ Hid ((e = 0 ∧ m.Sm ∧ matF .one (wl s) = matF m ((wl s).drop i)) ∨ (e = 8 ∧ m = .zero ∧ matF .one (wl s) = none)), ⟨_, ci ⟨0, _, .one, 0, _, rfl, ⟨rfl, rfl, rfl, rfl, rfl, rfl, rfl, trivial⟩, rfl, Nat.zero_le _, (by omega), ⟨.inl ⟨rfl, sm_one, rfl⟩⟩⟩⟩, ?_⟩
  rintro _ st ⟨i, b, m, e, T, rfl, hT, rfl, hi, hb, hh⟩
  obtain ⟨J, rfl⟩ := gt_open hT
  clear hT
  have hfin : ∀ (hd : (e = 0 ∧ i = s.size) ∨ e = 8), (PV.tup [pU m, pn e]) = matA (matF .one (wl s)) := fun hd => by
    rcases hh.h with ⟨h1, h2, h3⟩ | ⟨h1, h2, h3⟩
    · have : i = s.size := by omega
      subst this
      rw [h3, List.drop_eq_nil_of_le (by rw [wl_len]; omega), h1]
      rfl
    · rw [h1, h2, h3]
      rfl
  refine ⟨fun hlt => ?_, fun hge => ?_⟩
  · refine ⟨fun he => ?_, fun he => ?_⟩
    · refine ⟨by kernel_rfl, ?_⟩
      refine ⟨_, rfl, rfl, ?_⟩
      obtain ⟨x, hx, hx2⟩ := wl_at (s := s) (i := i) (by omega)
      refine ⟨by omega, x, hx, ?_⟩
      refine ⟨LMs, ⟨rfl, rfl⟩, fun v hv => ?_, fun hv => absurd (hl _ (List.mem_of_getElem? hx2)) (lm_none hv)⟩
      obtain ⟨-, rfl⟩ := lm_some hv
      obtain ⟨h2, h3⟩ : m.Sm ∧ matF .one (wl s) = matF m ((wl s).drop i) := by
        rcases hh.h with ⟨h1, h2, h3⟩ | ⟨h1, h2, h3⟩
        · exact ⟨h2, h3⟩
        · omega
      rw [drop_at hx2] at h3
      refine callq rfl (times_ct S hS (a := m) (b := .of x.toNat) h2 (sm_of _)) (by omega) ?_
      rintro _ (⟨h4, rfl⟩ | ⟨h4, rfl⟩)
      · rw [matF_yes h4] at h3
        refine ⟨_, _, rfl, ⟨rfl, Nat.le_refl 4, rfl⟩, _, rfl, _, rfl, ?_⟩
        refine ⟨⟨by omega, by omega⟩, ?_⟩
        exact ⟨_, by omega, ci ⟨i + 1, _, _, 0, _, rfl, ⟨rfl, rfl, rfl, rfl, rfl, rfl, rfl, trivial⟩, rfl, by omega, by omega, ⟨.inl ⟨rfl, h4, h3⟩⟩⟩⟩
      · rw [matF_no h4] at h3
        refine ⟨_, _, rfl, ⟨rfl, Nat.le_refl 4, rfl⟩, _, rfl, _, rfl, ?_⟩
        refine ⟨⟨by omega, by omega⟩, ?_⟩
        exact ⟨_, by omega, ci ⟨i + 1, _, .zero, 8, _, rfl, ⟨rfl, rfl, rfl, rfl, rfl, rfl, rfl, trivial⟩, rfl, by omega, by omega, ⟨.inr ⟨rfl, rfl, h3⟩⟩⟩⟩
    · have he8 : e = 8 := by rcases hh.h with ⟨h1, -⟩ | ⟨h1, -⟩; exact absurd h1 he; exact h1
      refine ⟨_, rfl, ?_⟩
      refine ⟨_, _, rfl, ⟨rfl, Nat.le_refl 4, rfl⟩, _, rfl, _, rfl, ?_⟩
      exact ⟨_, rfl, endsq rfl (hfin (.inr he8))⟩
  · have hi2 : i = s.size := by omega
    refine ⟨_, rfl, ?_⟩
    refine ⟨_, _, rfl, ⟨rfl, Nat.le_refl 4, rfl⟩, _, rfl, _, rfl, ?_⟩
    exact ⟨_, rfl, endsq rfl (hfin (by rcases hh.h with ⟨h1, -⟩ | ⟨h1, -⟩; exact .inl ⟨h1, hi2⟩; exact .inr h1))⟩
theorem fn16 : ctx.fn 16 = some c16 := by kernel_rfl
/-- the answer of Matrix -/
noncomputable def matR (s : ByteArray) : PV := if chkW s = 0 then matA (matF .one (wl s)) else .tup [pU .zero, pn (chkW s)]
theorem pmatrix_ct (hS : OldO S) {s : ByteArray} (hs : s.size ≤ 1000000) : Ct (ctx.plus S) 16 [.str s] 6000 fun r => r = matR s := by
  refine ct_of (hS 16 (by decide)) fn16 ?_
  refine ⟨by omega, ?_⟩
  refine callq rfl (checkWord_ct S hS hs) (by omega) ?_
  rintro _ rfl
  refine ⟨fun h => ?_, fun h => ?_⟩
  · have h : ¬ chkW s = 0 := h
    have e : matR s = .tup [pU .zero, pn (chkW s)] := by unfold matR; rw [if_neg h]
    refine partc rfl ⟨_, rfl, ?_⟩
    refine ⟨_, _, rfl, ⟨rfl, Nat.le_refl 4, rfl⟩, _, rfl, _, rfl, ?_⟩
    exact ⟨_, rfl, endsq rfl (by rw [e]; rfl)⟩
  · have h : chkW s = 0 := h
    obtain ⟨h1, h2⟩ := chkW_ok h
    refine callq rfl (matrix_ct S hS h1 h2) (by omega) ?_
    rintro _ rfl
    have e : matR s = matA (matF .one (wl s)) := by unfold matR; rw [if_pos h]
    cases hm : matF .one (wl s) with
    | some m =>
      refine ⟨_, _, rfl, ⟨rfl, Nat.le_refl 4, rfl⟩, _, rfl, _, rfl, ?_⟩
      exact ⟨_, rfl, endsq rfl (by rw [e, hm]; rfl)⟩
    | none =>
      refine ⟨_, _, rfl, ⟨rfl, Nat.le_refl 4, rfl⟩, _, rfl, _, rfl, ?_⟩
      exact ⟨_, rfl, endsq rfl (by rw [e, hm]; rfl)⟩
end Go.PI
/- WORDS AND MATRICES of the reference; the law of words. -/
open Go.Proofs
namespace Go.PI
open IM
set_option maxRecDepth 10000
set_option maxHeartbeats 4000000
variable (S : FuncId → Option (List AV → Heap → Option (AV × Heap)))
theorem u8_eq_y {a b : Nat} (h : a = b) : intBin .eql .u8 (a : Int) (b : Int) = some (.bool true) := by subst h; simp [intBin]
theorem u8_eq_n {a b : Nat} (h : a ≠ b) : intBin .eql .u8 (a : Int) (b : Int) = some (.bool false) := by
  have : ((a : Int) == (b : Int)) = false := by simp; omega
  simp [intBin, this]
theorem u8_ne_y {a b : Nat} (h : a ≠ b) : intBin .neq .u8 (a : Int) (b : Int) = some (.bool true) := by
  have : ((a : Int) != (b : Int)) = true := by simp; omega
  simp only [intBin, this]
theorem u8_ne_n {a b : Nat} (h : a = b) : intBin .neq .u8 (a : Int) (b : Int) = some (.bool false) := by subst h; simp [intBin]
theorem fn19 : ctx.fn 19 = some c19 := by kernel_rfl
theorem rcheckWord_ct (hS : OldO S) {s : ByteArray} (hs : s.size ≤ 1000000) : Ct (ctx.plus S) 19 [.str s] 0 fun r => r = pn (chkW s) := by
  refine ct_of (hS 19 (by decide)) fn19 ?_
  refine ⟨fun h => ?_, fun h => ?_⟩
  · exact endq rfl (by rw [chkW8 (by omega)])
  refine ⟨fun q st => ∃ (i : Nat) (T : List PV), st = ⟨T, [], 0⟩ ∧ Gt T 35 [(0, .str s), (3, pn i)] ∧ q = s.size - i ∧ i ≤ s.size ∧ Hid (∀ x ∈ (wl s).take i, IsLet x), ⟨_, ci ⟨0, _, rfl, ⟨rfl, rfl, rfl, trivial⟩, rfl, Nat.zero_le _, ⟨fun x hx => by simp at hx⟩⟩⟩, ?_⟩
  rintro _ st ⟨i, T, rfl, hT, rfl, hi, hh⟩
  obtain ⟨J, rfl⟩ := gt_open hT
  clear hT
  refine ⟨fun hlt => ?_, fun hge => ?_⟩
  · obtain ⟨x, hx, hx2⟩ := wl_at (s := s) (i := i) (by omega)
    refine ⟨by omega, x, hx, ?_⟩
    have next : IsLet x.toNat → ∀ y ∈ (wl s).take (i + 1), IsLet y := fun hl y hy => by
      rw [take_sn hx2] at hy
      rcases List.mem_append.1 hy with hy | hy
      · exact hh.h y hy
      · rw [List.mem_singleton.1 hy]; exact hl
    by_cases h1 : x.toNat = 83
    · refine ⟨rfl, _, u8_ne_n h1, ?_⟩
      refine ⟨⟨by omega, by omega⟩, ?_⟩
      exact ⟨_, by omega, ci ⟨i + 1, _, rfl, ⟨rfl, rfl, rfl, trivial⟩, rfl, by omega, ⟨next (.inl h1)⟩⟩⟩
    refine ⟨rfl, _, u8_ne_y h1, ?_⟩
    refine ⟨by omega, x, hx, ?_⟩
    by_cases h2 : x.toNat = 115
    · refine ⟨rfl, _, u8_ne_n h2, ?_⟩
      refine ⟨⟨by omega, by omega⟩, ?_⟩
      exact ⟨_, by omega, ci ⟨i + 1, _, rfl, ⟨rfl, rfl, rfl, trivial⟩, rfl, by omega, ⟨next (.inr (.inl h2))⟩⟩⟩
    refine ⟨rfl, _, u8_ne_y h2, ?_⟩
    refine ⟨by omega, x, hx, ?_⟩
    by_cases h3 : x.toNat = 84
    · refine ⟨rfl, _, u8_ne_n h3, ?_⟩
      refine ⟨⟨by omega, by omega⟩, ?_⟩
      exact ⟨_, by omega, ci ⟨i + 1, _, rfl, ⟨rfl, rfl, rfl, trivial⟩, rfl, by omega, ⟨next (.inr (.inr (.inl h3)))⟩⟩⟩
    refine ⟨rfl, _, u8_ne_y h3, ?_⟩
    refine ⟨by omega, x, hx, ?_⟩
    by_cases h4 : x.toNat = 116
    · refine ⟨rfl, _, u8_ne_n h4, ?_⟩
      refine ⟨⟨by omega, by omega⟩, ?_⟩
      exact ⟨_, by omega, ci ⟨i + 1, _, rfl, ⟨rfl, rfl, rfl, trivial⟩, rfl, by omega, ⟨next (.inr (.inr (.inr h4)))⟩⟩⟩
    refine ⟨rfl, _, u8_ne_y h4, ?_⟩
    exact endq rfl (by rw [chkW7 (by omega) (List.mem_of_getElem? hx2) (by rintro (h | h | h | h) <;> contradiction)])
  · exact endq rfl (by
      rw [chkW0 (by omega) fun x hx => hh.h x (by rw [List.take_of_length_le (by rw [wl_len]; omega)]; exact hx)])
theorem fn71 : ctx.fn 71 = some c71 := by kernel_rfl
theorem one_ct (hS : OldO S) : Ct (ctx.plus S) 71 [] 1 fun r => r = pU .one := by
  refine ct_of (hS 71 (by decide)) fn71 ?_
  refine ⟨by omega, ?_⟩
  refine partc rfl ⟨_, rfl, ?_⟩
  refine ⟨_, _, rfl, ⟨rfl, Nat.le_refl 4, rfl⟩, _, rfl, _, rfl, ?_⟩
  exact ⟨_, rfl, endq rfl rfl⟩
theorem fn72 : ctx.fn 72 = some c72 := by kernel_rfl
theorem rproduct_ct (hS : OldO S) {a b : Mt} (ha : a.Sm) (hb : b.Sm) : Ct (ctx.plus S) 72 [pU a, pU b] 3 fun r => r = pU (a.mul b) := by
  have p1 := mul6 ha.a hb.a
  have p2 := mul6 ha.b hb.c
  have p3 := mul6 ha.a hb.b
  have p4 := mul6 ha.b hb.d
  have p5 := mul6 ha.c hb.a
  have p6 := mul6 ha.d hb.c
  have p7 := mul6 ha.c hb.b
  have p8 := mul6 ha.d hb.d
  refine ct_of (hS 72 (by decide)) fn72 ?_
  refine ⟨by omega, by omega, by omega, ?_⟩
  refine ⟨_, rfl, ?_⟩
  refine ⟨_, rfl, ?_⟩
  refine ⟨⟨by omega, by omega⟩, ?_⟩
  refine ⟨_, rfl, ?_⟩
  refine ⟨_, rfl, ?_⟩
  refine ⟨⟨by omega, by omega⟩, ?_⟩
  refine ⟨⟨by omega, by omega⟩, ?_⟩
  refine ⟨_, rfl, ?_⟩
  refine ⟨_, rfl, ?_⟩
  refine ⟨⟨by omega, by omega⟩, ?_⟩
  refine ⟨_, rfl, ?_⟩
  refine ⟨_, rfl, ?_⟩
  refine ⟨⟨by omega, by omega⟩, ?_⟩
  refine ⟨⟨by omega, by omega⟩, ?_⟩
  refine ⟨_, rfl, ?_⟩
  refine ⟨_, rfl, ?_⟩
  refine ⟨⟨by omega, by omega⟩, ?_⟩
  refine ⟨_, rfl, ?_⟩
  refine ⟨_, rfl, ?_⟩
  refine ⟨⟨by omega, by omega⟩, ?_⟩
  refine ⟨⟨by omega, by omega⟩, ?_⟩
  refine ⟨_, rfl, ?_⟩
  refine ⟨_, rfl, ?_⟩
  refine ⟨⟨by omega, by omega⟩, ?_⟩
  refine ⟨_, rfl, ?_⟩
  refine ⟨_, rfl, ?_⟩
  refine ⟨⟨by omega, by omega⟩, ?_⟩
  refine ⟨⟨by omega, by omega⟩, ?_⟩
  refine partc rfl ⟨_, rfl, ?_⟩
  refine ⟨_, _, rfl, ⟨rfl, Nat.le_refl 4, rfl⟩, _, rfl, _, rfl, ?_⟩
  exact ⟨_, rfl, endq rfl rfl⟩
theorem fn73 : ctx.fn 73 = some c73 := by kernel_rfl
theorem of_ct (hS : OldO S) {b : Nat} : Ct (ctx.plus S) 73 [.int .u8 b] 1 fun r => r = pU (.of b) := by
  refine ct_of (hS 73 (by decide)) fn73 ?_
  refine ⟨by omega, ?_⟩
  by_cases h1 : b = 83
  · refine ⟨rfl, _, u8_eq_y h1, ?_⟩
    refine partc rfl ⟨_, rfl, ?_⟩
    refine ⟨_, _, rfl, ⟨rfl, Nat.le_refl 4, rfl⟩, _, rfl, _, rfl, ?_⟩
    exact ⟨_, rfl, endq rfl (by subst h1; rfl)⟩
  refine ⟨rfl, _, u8_eq_n h1, ?_⟩
  by_cases h2 : b = 115
  · refine ⟨rfl, _, u8_eq_y h2, ?_⟩
    refine partc rfl ⟨_, rfl, ?_⟩
    refine ⟨_, _, rfl, ⟨rfl, Nat.le_refl 4, rfl⟩, _, rfl, _, rfl, ?_⟩
    exact ⟨_, rfl, endq rfl (by subst h2; rfl)⟩
  refine ⟨rfl, _, u8_eq_n h2, ?_⟩
  by_cases h3 : b = 84
  · refine ⟨rfl, _, u8_eq_y h3, ?_⟩
    refine partc rfl ⟨_, rfl, ?_⟩
    refine ⟨_, _, rfl, ⟨rfl, Nat.le_refl 4, rfl⟩, _, rfl, _, rfl, ?_⟩
    exact ⟨_, rfl, endq rfl (by subst h3; rfl)⟩
  refine ⟨rfl, _, u8_eq_n h3, ?_⟩
  refine partc rfl ⟨_, rfl, ?_⟩
  refine ⟨_, _, rfl, ⟨rfl, Nat.le_refl 4, rfl⟩, _, rfl, _, rfl, ?_⟩
  exact ⟨_, rfl, endq rfl (by unfold Mt.of; rw [if_neg h1, if_neg h2, if_neg h3]; rfl)⟩
theorem fn79 : ctx.fn 79 = some c79 := by kernel_rfl
theorem abs_ct (hS : OldO S) {a : Int} (ha : -9000000000000000000 ≤ a) : Ct (ctx.plus S) 79 [pn a] 0 fun v => v = pn (a.natAbs : Nat) := by
  refine ct_of (hS 79 (by decide)) fn79 ?_
  refine ⟨fun h => ?_, fun h => ?_⟩
  · refine ⟨⟨by omega, by omega⟩, ?_⟩
    refine endq rfl ?_
    show pn _ = pn _
    congr 1
    omega
  · refine endq rfl ?_
    show pn _ = pn _
    congr 1
    omega
theorem fn74 : ctx.fn 74 = some c74 := by kernel_rfl
theorem inside_ct (hS : OldO S) {m : Mt} (h6 : -9000000000000000000 ≤ m.A ∧ -9000000000000000000 ≤ m.B ∧ -9000000000000000000 ≤ m.C ∧ -9000000000000000000 ≤ m.D) : Ct (ctx.plus S) 74 [pU m] 1 fun r => (m.Sm ∧ r = .bool true) ∨ (¬ m.Sm ∧ r = .bool false) := by
  refine ct_of (hS 74 (by decide)) fn74 ?_
  refine ⟨by omega, ?_⟩
  refine ⟨_, rfl, ?_⟩
  refine callq rfl (abs_ct S hS h6.1) (by omega) ?_
  rintro _ rfl
  refine ⟨fun h1 => ?_, fun h1 => ?_⟩
  · refine ⟨_, rfl, ?_⟩
    refine callq rfl (abs_ct S hS h6.2.1) (by omega) ?_
    rintro _ rfl
    refine ⟨fun h2 => ?_, fun h2 => ?_⟩
    · refine ⟨_, rfl, ?_⟩
      refine callq rfl (abs_ct S hS h6.2.2.1) (by omega) ?_
      rintro _ rfl
      refine ⟨fun h3 => ?_, fun h3 => ?_⟩
      · refine ⟨_, rfl, ?_⟩
        refine callq rfl (abs_ct S hS h6.2.2.2) (by omega) ?_
        rintro _ rfl
        refine ⟨fun h4 => ?_, fun h4 => ?_⟩
        · exact endq rfl (.inl ⟨⟨by omega, by omega, by omega, by omega⟩, rfl⟩)
        · exact endq rfl (.inr ⟨fun hs => by have := hs.d; omega, rfl⟩)
      · exact endq rfl (.inr ⟨fun hs => by have := hs.c; omega, rfl⟩)
    · exact endq rfl (.inr ⟨fun hs => by have := hs.b; omega, rfl⟩)
  · exact endq rfl (.inr ⟨fun hs => by have := hs.a; omega, rfl⟩)
theorem mul_big {a b : Mt} (ha : a.Sm) (hb : b.Sm) : -9000000000000000000 ≤ (a.mul b).A ∧ -9000000000000000000 ≤ (a.mul b).B ∧ -9000000000000000000 ≤ (a.mul b).C ∧ -9000000000000000000 ≤ (a.mul b).D := by
  have p1 := mul6 ha.a hb.a
  have p2 := mul6 ha.b hb.c
  have p3 := mul6 ha.a hb.b
  have p4 := mul6 ha.b hb.d
  have p5 := mul6 ha.c hb.a
  have p6 := mul6 ha.d hb.c
  have p7 := mul6 ha.c hb.b
  have p8 := mul6 ha.d hb.d
  unfold Mt.mul
  exact ⟨by show _ ≤ a.A * b.A + a.B * b.C; omega, by show _ ≤ a.A * b.B + a.B * b.D; omega, by show _ ≤ a.C * b.A + a.D * b.C; omega, by show _ ≤ a.C * b.B + a.D * b.D; omega⟩
theorem fn17 : ctx.fn 17 = some c17 := by kernel_rfl
theorem rmatrix_ct (hS : OldO S) {s : ByteArray} (hs : s.size ≤ 1000000) : Ct (ctx.plus S) 17 [.str s] 6000 fun r => r = matR s := by
  refine ct_of (hS 17 (by decide)) fn17 ?_
  refine ⟨by omega, ?_⟩
  refine callq rfl (rcheckWord_ct S hS hs) (by omega) ?_
  rintro _ rfl
  refine ⟨fun h => ?_, fun h => ?_⟩
  · have h : ¬ chkW s = 0 := h
    have e : matR s = .tup [pU .zero, pn (chkW s)] := by unfold matR; rw [if_neg h]
    refine partc rfl ⟨_, rfl, ?_⟩
    refine ⟨_, _, rfl, ⟨rfl, Nat.le_refl 4, rfl⟩, _, rfl, _, rfl, ?_⟩
    exact ⟨_, rfl, endsq rfl (by rw [e]; rfl)⟩
  have h : chkW s = 0 := h
  obtain ⟨h1, hl⟩ := chkW_ok h
  have e : matR s = matA (matF .one (wl s)) := by unfold matR; rw [if_pos h]
  refine callq rfl (one_ct S hS) (by omega) ?_
  rintro _ rfl
  refine ⟨by omega, ?_⟩
  refine ⟨_, _, push_get, ⟨rfl, Nat.le_refl 4, rfl⟩, _, rfl, _, rfl, ?_⟩
  refine ⟨fun q st => ∃ (i b : Nat) (m : Mt) (T : List PV), st = ⟨T, [.live 24 [pn 0, pn 0, pn 0, pn 0], .live 24 [pn m.A, pn m.B, pn m.C, pn m.D]], b⟩ ∧ Gt T 31 [(0, .str s), (2, .optr 0 0), (5, .optr 1 0), (6, pn i)] ∧ q = s.size - i ∧ i ≤ s.size ∧ b ≤ 5 + 5 * i ∧ Hid (m.Sm ∧ matF .one (wl s) = matF m ((wl s).drop i)), ⟨_, ci ⟨0, _, .one, _, rfl, ⟨rfl, rfl, rfl, rfl, rfl, trivial⟩, rfl, Nat.zero_le _, (by omega), ⟨sm_one, rfl⟩⟩⟩, ?_⟩
  rintro _ st ⟨i, b, m, T, rfl, hT, rfl, hi, hb, hh⟩
  obtain ⟨J, rfl⟩ := gt_open hT
  clear hT
  refine ⟨fun hlt => ?_, fun hge => ?_⟩
  · obtain ⟨x, hx, hx2⟩ := wl_at (s := s) (i := i) (by omega)
    have h3 := hh.h.2
    have h2 := hh.h.1
    rw [drop_at hx2] at h3
    refine ⟨by kernel_rfl, ?_⟩
    refine ⟨_, rfl, rfl, ?_⟩
    refine ⟨by omega, x, hx, ?_⟩
    refine callq rfl (of_ct S hS (b := x.toNat)) (by omega) ?_
    rintro _ rfl
    refine callq rfl (rproduct_ct S hS (a := m) (b := .of x.toNat) h2 (sm_of _)) (by omega) ?_
    rintro _ rfl
    refine ⟨_, _, rfl, ⟨rfl, Nat.le_refl 4, rfl⟩, _, rfl, _, rfl, ?_⟩
    refine ⟨_, rfl, ?_⟩
    refine callq rfl (inside_ct S hS (m := m.mul (.of x.toNat)) (mul_big h2 (sm_of _))) (by omega) ?_
    rintro _ (⟨h4, rfl⟩ | ⟨h4, rfl⟩)
    · rw [matF_yes h4] at h3
      refine ⟨⟨by omega, by omega⟩, ?_⟩
      exact ⟨_, by omega, ci ⟨i + 1, _, _, _, rfl, ⟨rfl, rfl, rfl, rfl, rfl, trivial⟩, rfl, by omega, by omega, ⟨h4, h3⟩⟩⟩
    · rw [matF_no h4] at h3
      refine partc rfl ⟨_, rfl, ?_⟩
      refine ⟨_, _, rfl, ⟨rfl, Nat.le_refl 4, rfl⟩, _, rfl, _, rfl, ?_⟩
      exact ⟨_, rfl, endsq rfl (by rw [e, h3]; rfl)⟩
  · have hi2 : i = s.size := by omega
    refine ⟨_, rfl, ?_⟩
    refine ⟨_, _, rfl, ⟨rfl, Nat.le_refl 4, rfl⟩, _, rfl, _, rfl, ?_⟩
    have h5 : (wl s).drop i = [] := List.drop_eq_nil_of_le (by rw [wl_len]; omega)
    exact ⟨_, rfl, endsq rfl (by rw [e, hh.h.2, h5]; rfl)⟩
/-- whether two answers are the same -/
theorem peqI_refl : ∀ (xs : List Int), peqI (xs.map pn) (xs.map pn) = some true
  | [] => rfl
  | x :: xs => by
    show (match peqI (xs.map pn) (xs.map pn) with | some r => _ | none => none) = _
    rw [peqI_refl xs]
    simp
theorem fn3 : ctx.fn 3 = some c3 := by kernel_rfl
theorem wordsLaw_ct (hS : OldO S) (hA : Ct (ctx.plus S) 15 [] 0 fun r => r = .bool true) {s : ByteArray} : Ct (ctx.plus S) 3 [.str s] 20000 fun r => r = .bool true := by
  refine ct_of (hS 3 (by decide)) fn3 ?_
  refine callq rfl hA (by omega) ?_
  rintro _ rfl
  refine ⟨fun h => ?_, fun h => ?_⟩
  · exact endq rfl rfl
  have hs2 : s.size ≤ 1000000 := by omega
  refine callq rfl (pmatrix_ct S hS hs2) (by omega) ?_
  rintro _ rfl
  obtain ⟨m, e, hm⟩ : ∃ m e, matR s = .tup [pU m, pn e] := by
    unfold matR
    split
    · cases matF .one (wl s) with
      | some m => exact ⟨m, 0, rfl⟩
      | none => exact ⟨.zero, 8, rfl⟩
    · exact ⟨.zero, _, rfl⟩
  rw [hm]
  refine ⟨by omega, ?_⟩
  refine ⟨_, _, push_get, ⟨rfl, Nat.le_refl 4, rfl⟩, _, rfl, _, rfl, ?_⟩
  refine callq rfl (rmatrix_ct S hS hs2) (by omega) ?_
  rintro _ rfl
  rw [hm]
  refine ⟨by omega, ?_⟩
  refine ⟨_, _, push_get, ⟨rfl, Nat.le_refl 4, rfl⟩, _, rfl, _, rfl, ?_⟩
  refine callq rfl (checkWord_ct S hS hs2) (by omega) ?_
  rintro _ rfl
  refine callq rfl (rcheckWord_ct S hS hs2) (by omega) ?_
  rintro _ rfl
  refine ⟨fun _ => ?_, fun h => absurd rfl h⟩
  refine ⟨fun _ => ?_, fun h => absurd rfl h⟩
  refine ⟨_, rfl, ?_⟩
  refine ⟨_, rfl, ?_⟩
  refine ⟨true, ⟨peqI_refl [m.A, m.B, m.C, m.D], rfl⟩, ?_⟩
  exact endq rfl rfl
end Go.PI
