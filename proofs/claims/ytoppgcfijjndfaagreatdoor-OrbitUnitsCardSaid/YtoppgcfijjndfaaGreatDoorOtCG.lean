/- Own work of the verifier: OrUx. -/
import Derived.Test.YtoppgcfijjndfaaGreatDoorOtCF
import Derived.Test.YtoppgcfijjndfaaGreatDoorOtCD
set_option linter.all false
set_option exponentiation.threshold 3000
set_option linter.deprecated false
/- UNITS: checked, multiplied, inverted; letters written in a row. -/
open Go.Proofs
namespace Go.PI
open IM
set_option maxRecDepth 10000
set_option maxHeartbeats 4000000
variable (S : FuncId → Option (List AV → Heap → Option (AV × Heap)))
open Classical in
noncomputable def chkU (m : Mt) : Int := if m.Sm then (if m.A * m.D - m.B * m.C = 1 then 0 else 3) else 2
theorem chkU2 {m : Mt} (h : ¬ m.Sm) : chkU m = 2 := by unfold chkU; rw [if_neg h]
theorem chkU3 {m : Mt} (h : m.Sm) (h2 : ¬ m.A * m.D - m.B * m.C = 1) : chkU m = 3 := by unfold chkU; rw [if_pos h, if_neg h2]
theorem chkU0 {m : Mt} (h : Un m) : chkU m = 0 := by unfold chkU; rw [if_pos h.sm, if_pos h.det]
theorem chkU_ok {m : Mt} (h : chkU m = 0) : Un m := by
  unfold chkU at h
  split at h
  · split at h
    · exact ⟨‹_›, ‹_›⟩
    · cases h
  · cases h
theorem fn76 : ctx.fn 76 = some c76 := by kernel_rfl
theorem checkUnit_ct (hS : OldO S) {m : Mt} : Ct (ctx.plus S) 76 [pU m] 10 fun r => r = pn (chkU m) := by
  refine ct_of (hS 76 (by decide)) fn76 ?_
  refine ⟨by omega, ?_⟩
  refine ⟨_, rfl, ?_⟩
  refine callq rfl (isSmall_ct S hS (m := m)) (by omega) ?_
  rintro _ (⟨h, rfl⟩ | ⟨h, rfl⟩)
  · have p1 := mul6 h.a h.d
    have p2 := mul6 h.b h.c
    refine ⟨_, rfl, ?_⟩
    refine ⟨_, rfl, ?_⟩
    refine ⟨⟨by omega, by omega⟩, ?_⟩
    refine ⟨_, rfl, ?_⟩
    refine ⟨_, rfl, ?_⟩
    refine ⟨⟨by omega, by omega⟩, ?_⟩
    refine ⟨⟨by omega, by omega⟩, ?_⟩
    refine ⟨fun h2 => ?_, fun h2 => ?_⟩
    · exact endq rfl (by rw [chkU3 h h2])
    · exact endq rfl (by rw [chkU0 ⟨h, h2⟩])
  · exact endq rfl (by rw [chkU2 h])
theorem fn82 : ctx.fn 82 = some c82 := by kernel_rfl
theorem bwithin_ct (hS : OldO S) {n a b : Int} : Ct (ctx.plus S) 82 [pn n, pn a, pn b] 0 fun r => r = .bool (decide (a ≤ n ∧ n ≤ b)) := by
  refine ct_of (hS 82 (by decide)) fn82 ?_
  refine ⟨fun h1 => ?_, fun h1 => ?_⟩
  · refine ⟨fun h2 => ?_, fun h2 => ?_⟩
    · exact endq rfl (by rw [decide_eq_true ⟨by omega, by omega⟩])
    · exact endq rfl (by rw [decide_eq_false (by omega)])
  · exact endq rfl (by rw [decide_eq_false (by omega)])
theorem fn25 : ctx.fn 25 = some c25 := by kernel_rfl
theorem rcheckUnit_ct (hS : OldO S) {m : Mt} : Ct (ctx.plus S) 25 [pU m] 10 fun r => r = pn (chkU m) := by
  refine ct_of (hS 25 (by decide)) fn25 ?_
  refine ⟨by omega, ?_⟩
  refine ⟨_, rfl, ?_⟩
  refine callq rfl (bwithin_ct S hS) (by omega) ?_
  rintro _ rfl
  by_cases h1 : -1000000 ≤ m.A ∧ m.A ≤ 1000000
  case neg =>
    rw [decide_eq_false h1]
    exact endq rfl (by rw [chkU2 fun h => h1 h.a])
  rw [decide_eq_true h1]
  refine ⟨_, rfl, ?_⟩
  refine callq rfl (bwithin_ct S hS) (by omega) ?_
  rintro _ rfl
  by_cases h2 : -1000000 ≤ m.B ∧ m.B ≤ 1000000
  case neg =>
    rw [decide_eq_false h2]
    exact endq rfl (by rw [chkU2 fun h => h2 h.b])
  rw [decide_eq_true h2]
  refine ⟨_, rfl, ?_⟩
  refine callq rfl (bwithin_ct S hS) (by omega) ?_
  rintro _ rfl
  by_cases h3 : -1000000 ≤ m.C ∧ m.C ≤ 1000000
  case neg =>
    rw [decide_eq_false h3]
    exact endq rfl (by rw [chkU2 fun h => h3 h.c])
  rw [decide_eq_true h3]
  refine ⟨_, rfl, ?_⟩
  refine callq rfl (bwithin_ct S hS) (by omega) ?_
  rintro _ rfl
  by_cases h4 : -1000000 ≤ m.D ∧ m.D ≤ 1000000
  case neg =>
    rw [decide_eq_false h4]
    exact endq rfl (by rw [chkU2 fun h => h4 h.d])
  rw [decide_eq_true h4]
  have h : m.Sm := ⟨h1, h2, h3, h4⟩
  have p1 := mul6 h.a h.d
  have p2 := mul6 h.b h.c
  refine ⟨_, rfl, ?_⟩
  refine ⟨_, rfl, ?_⟩
  refine ⟨⟨by omega, by omega⟩, ?_⟩
  refine ⟨_, rfl, ?_⟩
  refine ⟨_, rfl, ?_⟩
  refine ⟨⟨by omega, by omega⟩, ?_⟩
  refine ⟨⟨by omega, by omega⟩, ?_⟩
  refine ⟨fun h2 => ?_, fun h2 => ?_⟩
  · exact endq rfl (by rw [chkU3 h h2])
  · exact endq rfl (by rw [chkU0 ⟨h, h2⟩])
open Classical in
/-- the answer of Times -/
noncomputable def timR (a b : Mt) : PV := if chkU a ≠ 0 then .tup [pU .zero, pn (chkU a)] else if chkU b ≠ 0 then .tup [pU .zero, pn (chkU b)] else if (a.mul b).Sm then .tup [pU (a.mul b), pn 0] else .tup [pU .zero, pn 8]
theorem fn22 : ctx.fn 22 = some c22 := by kernel_rfl
theorem ptimes_ct (hS : OldO S) {a b : Mt} : Ct (ctx.plus S) 22 [pU a, pU b] 50 fun r => r = timR a b := by
  refine ct_of (hS 22 (by decide)) fn22 ?_
  refine ⟨by omega, by omega, by omega, ?_⟩
  refine ⟨_, rfl, ?_⟩
  refine callq rfl (checkUnit_ct S hS (m := a)) (by omega) ?_
  rintro _ rfl
  refine ⟨fun h => ?_, fun h => ?_⟩
  · refine partc rfl ⟨_, rfl, ?_⟩
    refine ⟨_, _, rfl, ⟨rfl, Nat.le_refl 4, rfl⟩, _, rfl, _, rfl, ?_⟩
    exact ⟨_, rfl, endsq rfl (by unfold timR; rw [if_pos h]; rfl)⟩
  have h : chkU a = 0 := h
  refine ⟨_, rfl, ?_⟩
  refine callq rfl (checkUnit_ct S hS (m := b)) (by omega) ?_
  rintro _ rfl
  refine ⟨fun h2 => ?_, fun h2 => ?_⟩
  · refine partc rfl ⟨_, rfl, ?_⟩
    refine ⟨_, _, rfl, ⟨rfl, Nat.le_refl 4, rfl⟩, _, rfl, _, rfl, ?_⟩
    exact ⟨_, rfl, endsq rfl (by unfold timR; rw [if_neg fun x => x h, if_pos h2]; rfl)⟩
  have h2 : chkU b = 0 := h2
  refine ⟨_, rfl, ?_⟩
  refine ⟨_, rfl, ?_⟩
  refine callq rfl (times_ct S hS (chkU_ok h).sm (chkU_ok h2).sm) (by omega) ?_
  rintro _ (⟨h3, rfl⟩ | ⟨h3, rfl⟩)
  · refine ⟨_, _, rfl, ⟨rfl, Nat.le_refl 4, rfl⟩, _, rfl, _, rfl, ?_⟩
    exact ⟨_, rfl, endsq rfl (by unfold timR; rw [if_neg fun x => x h, if_neg fun x => x h2, if_pos h3]; rfl)⟩
  · refine ⟨_, _, rfl, ⟨rfl, Nat.le_refl 4, rfl⟩, _, rfl, _, rfl, ?_⟩
    exact ⟨_, rfl, endsq rfl (by unfold timR; rw [if_neg fun x => x h, if_neg fun x => x h2, if_neg h3]; rfl)⟩
theorem fn23 : ctx.fn 23 = some c23 := by kernel_rfl
theorem rtimes_ct (hS : OldO S) {a b : Mt} : Ct (ctx.plus S) 23 [pU a, pU b] 50 fun r => r = timR a b := by
  refine ct_of (hS 23 (by decide)) fn23 ?_
  refine ⟨by omega, by omega, by omega, ?_⟩
  refine ⟨_, rfl, ?_⟩
  refine callq rfl (rcheckUnit_ct S hS (m := a)) (by omega) ?_
  rintro _ rfl
  refine ⟨fun h => ?_, fun h => ?_⟩
  · refine partc rfl ⟨_, rfl, ?_⟩
    refine ⟨_, _, rfl, ⟨rfl, Nat.le_refl 4, rfl⟩, _, rfl, _, rfl, ?_⟩
    exact ⟨_, rfl, endsq rfl (by unfold timR; rw [if_pos h]; rfl)⟩
  have h : chkU a = 0 := h
  refine ⟨_, rfl, ?_⟩
  refine callq rfl (rcheckUnit_ct S hS (m := b)) (by omega) ?_
  rintro _ rfl
  refine ⟨fun h2 => ?_, fun h2 => ?_⟩
  · refine partc rfl ⟨_, rfl, ?_⟩
    refine ⟨_, _, rfl, ⟨rfl, Nat.le_refl 4, rfl⟩, _, rfl, _, rfl, ?_⟩
    exact ⟨_, rfl, endsq rfl (by unfold timR; rw [if_neg fun x => x h, if_pos h2]; rfl)⟩
  have h2 : chkU b = 0 := h2
  refine ⟨_, rfl, ?_⟩
  refine ⟨_, rfl, ?_⟩
  refine callq rfl (rproduct_ct S hS (chkU_ok h).sm (chkU_ok h2).sm) (by omega) ?_
  rintro _ rfl
  refine ⟨by omega, ?_⟩
  refine ⟨_, _, push_get, ⟨rfl, Nat.le_refl 4, rfl⟩, _, rfl, _, rfl, ?_⟩
  refine ⟨_, rfl, ?_⟩
  refine callq rfl (inside_ct S hS (m := a.mul b) (mul_big (chkU_ok h).sm (chkU_ok h2).sm)) (by omega) ?_
  rintro _ (⟨h3, rfl⟩ | ⟨h3, rfl⟩)
  · refine ⟨_, rfl, ?_⟩
    refine ⟨_, _, rfl, ⟨rfl, Nat.le_refl 4, rfl⟩, _, rfl, _, rfl, ?_⟩
    exact ⟨_, rfl, endsq rfl (by unfold timR; rw [if_neg fun x => x h, if_neg fun x => x h2, if_pos h3]; rfl)⟩
  · refine partc rfl ⟨_, rfl, ?_⟩
    refine ⟨_, _, rfl, ⟨rfl, Nat.le_refl 4, rfl⟩, _, rfl, _, rfl, ?_⟩
    exact ⟨_, rfl, endsq rfl (by unfold timR; rw [if_neg fun x => x h, if_neg fun x => x h2, if_neg h3]; rfl)⟩
def Mt.inv (m : Mt) : Mt := ⟨m.D, 0 - m.B, 0 - m.C, m.A⟩
theorem fn24 : ctx.fn 24 = some c24 := by kernel_rfl
theorem pinverse_ct (hS : OldO S) {m : Mt} : Ct (ctx.plus S) 24 [pU m] 50 fun r => (chkU m ≠ 0 ∧ r = .tup [pU .zero, pn (chkU m)]) ∨ (chkU m = 0 ∧ r = .tup [pU m.inv, pn 0]) := by
  refine ct_of (hS 24 (by decide)) fn24 ?_
  refine ⟨by omega, by omega, ?_⟩
  refine ⟨_, rfl, ?_⟩
  refine callq rfl (checkUnit_ct S hS (m := m)) (by omega) ?_
  rintro _ rfl
  refine ⟨fun h => ?_, fun h => ?_⟩
  · refine partc rfl ⟨_, rfl, ?_⟩
    refine ⟨_, _, rfl, ⟨rfl, Nat.le_refl 4, rfl⟩, _, rfl, _, rfl, ?_⟩
    exact ⟨_, rfl, endsq rfl (.inl ⟨h, rfl⟩)⟩
  · have h : chkU m = 0 := h
    have hs := (chkU_ok h).sm
    have b := hs.b; have c := hs.c
    refine ⟨_, rfl, ?_⟩
    refine ⟨_, rfl, ?_⟩
    refine ⟨⟨by omega, by omega⟩, ?_⟩
    refine ⟨_, rfl, ?_⟩
    refine ⟨⟨by omega, by omega⟩, ?_⟩
    refine ⟨_, rfl, ?_⟩
    refine partc rfl ⟨_, rfl, ?_⟩
    refine ⟨_, _, rfl, ⟨rfl, Nat.le_refl 4, rfl⟩, _, rfl, _, rfl, ?_⟩
    exact ⟨_, rfl, endsq rfl (.inr ⟨h, rfl⟩)⟩
theorem fn26 : ctx.fn 26 = some c26 := by kernel_rfl
theorem rinv_ct (hS : OldO S) {m : Mt} (hs : m.Sm) : Ct (ctx.plus S) 26 [pU m] 50 fun r => r = pU m.inv := by
  have b := hs.b; have c := hs.c
  refine ct_of (hS 26 (by decide)) fn26 ?_
  refine ⟨by omega, by omega, ?_⟩
  refine ⟨_, rfl, ?_⟩
  refine ⟨_, rfl, ?_⟩
  refine ⟨⟨by omega, by omega⟩, ?_⟩
  refine ⟨_, rfl, ?_⟩
  refine ⟨⟨by omega, by omega⟩, ?_⟩
  refine ⟨_, rfl, ?_⟩
  refine partc rfl ⟨_, rfl, ?_⟩
  refine ⟨_, _, rfl, ⟨rfl, Nat.le_refl 4, rfl⟩, _, rfl, _, rfl, ?_⟩
  exact ⟨_, rfl, endq rfl rfl⟩
theorem fn125 : ctx.fn 125 = some c125 := by kernel_rfl
def Mt.neg (m : Mt) : Mt := ⟨0 - m.A, 0 - m.B, 0 - m.C, 0 - m.D⟩
theorem minus_ct (hS : OldO S) {m : Mt} (hs : m.Sm) : Ct (ctx.plus S) 125 [pU m] 2 fun r => r = pU m.neg := by
  have a := hs.a; have b := hs.b; have c := hs.c; have d := hs.d
  refine ct_of (hS 125 (by decide)) fn125 ?_
  refine ⟨by omega, by omega, ?_⟩
  refine ⟨_, rfl, ?_⟩
  refine ⟨⟨by omega, by omega⟩, ?_⟩
  refine ⟨_, rfl, ?_⟩
  refine ⟨⟨by omega, by omega⟩, ?_⟩
  refine ⟨_, rfl, ?_⟩
  refine ⟨⟨by omega, by omega⟩, ?_⟩
  refine ⟨_, rfl, ?_⟩
  refine ⟨⟨by omega, by omega⟩, ?_⟩
  refine partc rfl ⟨_, rfl, ?_⟩
  refine ⟨_, _, rfl, ⟨rfl, Nat.le_refl 4, rfl⟩, _, rfl, _, rfl, ?_⟩
  exact ⟨_, rfl, endq rfl rfl⟩
/-! ### Letters in a row -/
def lone (c : Nat) : ByteArray := if c = 84 then ⟨#[84]⟩ else ⟨#[116]⟩
/-- what is known of strings.Repeat -/
def RepOk : Prop := ∀ (n c : Nat), n ≤ 201 → (c = 84 ∨ c = 116) → Ct (ctx.plus S) 173 [.str (lone c), pn n] 0 fun r => ∃ t, r = .str t ∧ wl t = List.replicate n c
def tk' (k : Int) : List Nat := List.replicate (min k.natAbs 201) (if k < 0 then 116 else 84)
theorem fn124 : ctx.fn 124 = some c124 := by kernel_rfl
theorem powerT_ct (hS : OldO S) (hR : RepOk S) {k : Int} (hk : k.natAbs ≤ 10000000) : Ct (ctx.plus S) 124 [pn k] 0 fun r => ∃ t, r = .str t ∧ wl t = tk' k := by
  refine ct_of (hS 124 (by decide)) fn124 ?_
  refine ⟨fun h => ?_, fun h => ?_⟩
  · refine ⟨⟨by omega, by omega⟩, ?_⟩
    have e : min (0 - k) 201 = ((min k.natAbs 201 : Nat) : Int) := by omega
    have hq : Ct (ctx.plus S) 173 [.str (lone 116), pn (min (0 - k) 201)] 0 fun r => ∃ t, r = .str t ∧ wl t = List.replicate (min k.natAbs 201) 116 := by
      rw [e]; exact hR (min k.natAbs 201) 116 (by omega) (.inr rfl)
    refine callq rfl hq (by omega) ?_
    rintro _ ⟨t, rfl, ht⟩
    exact endq rfl ⟨t, rfl, by rw [ht]; unfold tk'; rw [if_pos h]⟩
  · have e : min k 201 = ((min k.natAbs 201 : Nat) : Int) := by omega
    have hq : Ct (ctx.plus S) 173 [.str (lone 84), pn (min k 201)] 0 fun r => ∃ t, r = .str t ∧ wl t = List.replicate (min k.natAbs 201) 84 := by
      rw [e]; exact hR (min k.natAbs 201) 84 (by omega) (.inl rfl)
    refine callq rfl hq (by omega) ?_
    rintro _ ⟨t, rfl, ht⟩
    exact endq rfl ⟨t, rfl, by rw [ht]; unfold tk'; rw [if_neg (by omega)]⟩
theorem fn80 : ctx.fn 80 = some c80 := by kernel_rfl
theorem rpower_ct (hS : OldO S) {k : Int} (hk : k.natAbs ≤ 10000000) : Ct (ctx.plus S) 80 [pn k] 0 fun r => (k.natAbs ≤ 201 ∧ ∃ t, r = .tup [.str t, .bool true] ∧ wl t = tk k) ∨ (201 < k.natAbs ∧ r = .tup [.str ByteArray.empty, .bool false]) := by
  refine ct_of (hS 80 (by decide)) fn80 ?_
  refine ⟨fun m st => ∃ (i : Nat) (t : ByteArray) (T : List PV), st = ⟨T, [], 0⟩ ∧ Gt T 22 [(0, pn k), (4, .str t), (5, pn i)] ∧ m = k.natAbs - i ∧ i ≤ k.natAbs ∧ i ≤ 201 ∧ Hid (wl t = List.replicate i (if k < 0 then 116 else 84)), ⟨_, ci ⟨0, _, _, rfl, ⟨rfl, rfl, rfl, rfl, trivial⟩, rfl, Nat.zero_le _, by omega, ⟨rfl⟩⟩⟩, ?_⟩
  rintro _ st ⟨i, t, T, rfl, hT, rfl, hi, hi2, ⟨ht⟩⟩
  obtain ⟨J, rfl⟩ := gt_open hT
  clear hT
  have hts : t.size = i := size_wl (by rw [ht, List.length_replicate])
  refine callq rfl (abs_ct S hS (by omega)) (by omega) ?_
  rintro _ rfl
  refine ⟨fun hlt => ?_, fun hge => ?_⟩
  · refine ⟨fun h => ?_, fun h => ?_⟩
    · exact endsq rfl (.inr ⟨by omega, rfl⟩)
    refine ⟨fun h2 => ?_, fun h2 => ?_⟩
    · refine ⟨_, add_str (show _ + 1 < _ by omega), ?_⟩
      refine ⟨⟨by omega, by omega⟩, ?_⟩
      exact ⟨_, by omega, ci ⟨i + 1, _, _, rfl, ⟨rfl, rfl, rfl, rfl, trivial⟩, rfl, by omega, by omega, ⟨by rw [wl_app, ht, if_neg (by omega), List.replicate_succ']; rfl⟩⟩⟩
    · refine ⟨_, add_str (show _ + 1 < _ by omega), ?_⟩
      refine ⟨⟨by omega, by omega⟩, ?_⟩
      exact ⟨_, by omega, ci ⟨i + 1, _, _, rfl, ⟨rfl, rfl, rfl, rfl, trivial⟩, rfl, by omega, by omega, ⟨by rw [wl_app, ht, if_pos (by omega), List.replicate_succ']; rfl⟩⟩⟩
  · have : i = k.natAbs := by omega
    exact endsq rfl (.inl ⟨by omega, t, rfl, by rw [ht, this]; rfl⟩)
end Go.PI
