/- Own work of the verifier: OrAr. -/
import Derived.Test.YtoppgcfijjndfaaGreatDoorOtBD
import Derived.Test.YtoppgcfijjndfaaGreatDoorOtBB
import Derived.Test.YtoppgcfijjndfaaGreatDoorOtBA
set_option linter.all false
set_option exponentiation.threshold 3000
set_option linter.deprecated false
/- WHAT A WORD MAKES of an origami: Act, and the reference; the law of actions. -/
open Go.Proofs
namespace Go.PI
open IM
set_option maxRecDepth 10000
set_option maxHeartbeats 4000000
variable (S : FuncId → Option (List AV → Heap → Option (AV × Heap)))
theorem fn28 : ctx.fn 28 = some c28 := by kernel_rfl
/-- Act where the origami or the word is refused -/
theorem pact_bad (hS : OldO S) {r u : List Int} {s : ByteArray} (l1 : r.length ≤ 1000000) (l2 : u.length ≤ 1000000) (hs : s.size ≤ 1000000) (hb : chkO r u ≠ 0 ∨ chkW s ≠ 0) :
    Ct (ctx.plus S) 28 [pO r u, .str s] 6000000 fun v => v = .tup [pO [] [], pn (if chkO r u = 0 then chkW s else chkO r u)] := by
  refine ct_of (hS 28 (by decide)) fn28 ?_
  refine ⟨by omega, by omega, ?_⟩
  refine ⟨_, rfl, ?_⟩
  refine callq rfl (check_ct S hS l1 l2) (by omega) ?_
  rintro _ rfl
  refine ⟨fun h => ?_, fun h => ?_⟩
  · refine partc rfl ⟨_, rfl, ?_⟩
    refine ⟨_, _, rfl, ⟨rfl, Nat.le_refl 2, rfl⟩, _, rfl, _, rfl, ?_⟩
    exact ⟨_, rfl, endsq rfl (by rw [if_neg h]; rfl)⟩
  · have h : chkO r u = 0 := h
    have hw : chkW s ≠ 0 := by rcases hb with hb | hb; exact absurd h hb; exact hb
    refine callq rfl (checkWord_ct S hS hs) (by omega) ?_
    rintro _ rfl
    refine ⟨fun _ => ?_, fun h => absurd h hw⟩
    refine partc rfl ⟨_, rfl, ?_⟩
    refine ⟨_, _, rfl, ⟨rfl, Nat.le_refl 2, rfl⟩, _, rfl, _, rfl, ?_⟩
    exact ⟨_, rfl, endsq rfl (by rw [if_pos h]; rfl)⟩
/-- an origami that is valid, as its steps -/
def o4 (f f' g g' : Nat → Nat) : O4 := ⟨f, f', g, g'⟩
theorem pact_ct (hS : OldO S) {n : Nat} {o : O4} {s : ByteArray} (h0 : 0 < n) (hn : n ≤ 60) (h : o.Ok n) (hw : chkW s = 0) :
    Ct (ctx.plus S) 28 [p4 n o, .str s] 6000000 fun v => v = .tup [p4 n (o.act (wl s)), pn 0] := by
  obtain ⟨w1, w2⟩ := chkW_ok hw
  have hO : IsO (PL n o.f) (PL n o.g) n o.f o.f' o.g o.g' := ⟨h0, hn, rfl, rfl, h.pr, h.pu⟩
  have hc := hO.chk
  have hl := hO.l1
  refine ct_of (hS 28 (by decide)) fn28 ?_
  refine ⟨by omega, by omega, ?_⟩
  refine ⟨_, rfl, ?_⟩
  refine callq rfl (check_ct S hS (r := PL n o.f) (u := PL n o.g) (by omega) (by omega)) (by omega) ?_
  rintro _ rfl
  refine ⟨fun h => absurd hc h, fun _ => ?_⟩
  refine callq rfl (checkWord_ct S hS (by omega)) (by omega) ?_
  rintro _ rfl
  refine ⟨fun h => absurd hw h, fun _ => ?_⟩
  refine ⟨_, rfl, ?_⟩
  refine callq rfl (act_ct S hS h0 hn h w1 w2) (by omega) ?_
  rintro _ rfl
  refine ⟨_, _, rfl, ⟨rfl, Nat.le_refl 2, rfl⟩, _, rfl, _, rfl, ?_⟩
  exact ⟨_, rfl, endsq rfl rfl⟩
theorem fn134 : ctx.fn 134 = some c134 := by kernel_rfl
theorem copy_cm (hS : OldO S) {xs : List Int} {σ : List StB} (hl : xs.length ≤ 1000000) (h0 : xs ≠ []) : Cm (ctx.plus S) 134 [pIs xs] σ 3 fun r σ' => Wrt σ σ' r xs := by
  have hne : xs.length ≠ 0 := fun h => h0 (List.eq_nil_of_length_eq_zero h)
  refine cm_of Opn.no (hS 134 (by decide)) fn134 fun c k0 hc => ?_
  refine ⟨by omega, part0 ⟨[], rfl, ?_⟩⟩
  have hpn : pones (xs.map pn) = true := pones_pn _
  refine ⟨⟨by rw [List.length_map]; show _ = _ * 1; omega, ⟨by show xs.length ≤ 2 ^ 30; omega, hpn⟩, by decide, fun h => absurd h (by omega), fun h => ⟨by omega, 3, [], _, push_cont, by decide, rfl, ?_⟩⟩⟩
  refine endm [] (by dsimp only; omega) ?_
  exact ⟨σ.length + 1, .inr (by rw [List.length_append, Nat.zero_add]; rfl), push_at (by simp), Nat.le_succ _, fun i b hb => by
      rw [List.getElem?_append_left (by simp; have := (List.getElem?_eq_some_iff.1 hb).1; omega), List.getElem?_append_left (List.getElem?_eq_some_iff.1 hb).1]
      exact hb⟩
theorem copy_ct (hS : OldO S) {xs : List Int} (hl : xs.length ≤ 1000000) (h0 : xs ≠ []) : Ct (ctx.plus S) 134 [pIs xs] 3 fun r => r = pIs xs := (copy_cm S hS hl h0).ct fun _ _ h => h.fz
theorem fn86 : ctx.fn 86 = some c86 := by kernel_rfl
theorem letter_ct (hS : OldO S) {n : Nat} {o : O4} {b : Nat} (h0 : 0 < n) (hn : n ≤ 60) (h : o.Ok n) : Ct (ctx.plus S) 86 [p4 n o, .int .u8 b] 1000 fun r => r = p4 n (o.let b) := by
  refine ct_of (hS 86 (by decide)) fn86 ?_
  refine ⟨by omega, by omega, ?_⟩
  refine ⟨by kernel_rfl, ?_⟩
  refine ⟨_, rfl, rfl, ?_⟩
  refine callq rfl (rinverse_ct S hS h.pr (by omega)) (by omega) ?_
  rintro _ rfl
  refine ⟨_, rfl, rfl, ?_⟩
  refine callq rfl (rinverse_ct S hS h.pu (by omega)) (by omega) ?_
  rintro _ rfl
  by_cases h1 : b = 83
  · refine ⟨rfl, _, u8_eq_y h1, ?_⟩
    refine ⟨_, rfl, ?_⟩
    refine callq rfl (copy_ct S hS (xs := PL n o.f) (by rw [PL_len]; omega) (PL_ne h0)) (by omega) ?_
    rintro _ rfl
    refine partc rfl ⟨_, rfl, ?_⟩
    refine ⟨_, _, rfl, ⟨rfl, Nat.le_refl 2, rfl⟩, _, rfl, _, rfl, ?_⟩
    exact ⟨_, rfl, endq rfl (by subst h1; rfl)⟩
  refine ⟨rfl, _, u8_eq_n h1, ?_⟩
  by_cases h2 : b = 115
  · refine ⟨rfl, _, u8_eq_y h2, ?_⟩
    refine ⟨_, rfl, ?_⟩
    refine callq rfl (copy_ct S hS (xs := PL n o.g) (by rw [PL_len]; omega) (PL_ne h0)) (by omega) ?_
    rintro _ rfl
    refine partc rfl ⟨_, rfl, ?_⟩
    refine ⟨_, _, rfl, ⟨rfl, Nat.le_refl 2, rfl⟩, _, rfl, _, rfl, ?_⟩
    exact ⟨_, rfl, endq rfl (by subst h2; rfl)⟩
  refine ⟨rfl, _, u8_eq_n h2, ?_⟩
  by_cases h3 : b = 84
  · refine ⟨rfl, _, u8_eq_y h3, ?_⟩
    refine ⟨by kernel_rfl, ?_⟩
    refine ⟨_, rfl, rfl, ?_⟩
    refine callq rfl (copy_ct S hS (xs := PL n o.f) (by rw [PL_len]; omega) (PL_ne h0)) (by omega) ?_
    rintro _ rfl
    refine ⟨_, rfl, rfl, ?_⟩
    refine callq rfl (after_ct S hS (f := o.g) (g := o.f') h.pu.lt (by omega)) (by omega) ?_
    rintro _ rfl
    refine partc rfl ⟨_, rfl, ?_⟩
    refine ⟨_, _, rfl, ⟨rfl, Nat.le_refl 2, rfl⟩, _, rfl, _, rfl, ?_⟩
    exact ⟨_, rfl, endq rfl (by subst h3; rfl)⟩
  refine ⟨rfl, _, u8_eq_n h3, ?_⟩
  refine ⟨by kernel_rfl, ?_⟩
  refine ⟨_, rfl, rfl, ?_⟩
  refine callq rfl (copy_ct S hS (xs := PL n o.f) (by rw [PL_len]; omega) (PL_ne h0)) (by omega) ?_
  rintro _ rfl
  refine ⟨_, rfl, rfl, ?_⟩
  refine ⟨_, rfl, rfl, ?_⟩
  refine callq rfl (after_ct S hS (f := o.g) (g := o.f) h.pu.lt (by omega)) (by omega) ?_
  rintro _ rfl
  refine partc rfl ⟨_, rfl, ?_⟩
  refine ⟨_, _, rfl, ⟨rfl, Nat.le_refl 2, rfl⟩, _, rfl, _, rfl, ?_⟩
  exact ⟨_, rfl, endq rfl (by unfold O4.let; rw [if_neg h1, if_neg h2, if_neg h3]; rfl)⟩
theorem fn32 : ctx.fn 32 = some c32 := by kernel_rfl
theorem ract_ct (hS : OldO S) {n : Nat} {o : O4} {s : ByteArray} (h0 : 0 < n) (hn : n ≤ 60) (h : o.Ok n) (hs : s.size ≤ 1000) : Ct (ctx.plus S) 32 [p4 n o, .str s] 2000000 fun r => r = p4 n (o.act (wl s)) := by
  refine ct_of (hS 32 (by decide)) fn32 ?_
  refine ⟨by omega, by omega, ?_⟩
  refine ⟨⟨by omega, by omega⟩, ?_⟩
  refine ⟨fun m st => ∃ (i b : Nat) (p : O4) (T : List PV), st = ⟨T, [.live 45 [pIs (PL n p.f), pIs (PL n p.g)], .live 45 [.lst 0 [], .lst 0 []]], b⟩ ∧ Gt T 19 [(1, .str s), (2, .optr 0 0), (4, .optr 1 0), (5, pn ((i : Int) - 1))] ∧ m = i ∧ i ≤ s.size ∧ b ≤ 2 + 1000 * (s.size - i) ∧ Hid (p = o.act ((wl s).drop i)), ⟨_, ci ⟨s.size, _, o, _, rfl, ⟨rfl, rfl, rfl, rfl, rfl, trivial⟩, rfl, Nat.le_refl _, by omega, ⟨?_⟩⟩⟩, ?_⟩
  · rw [List.drop_eq_nil_of_le (by rw [wl_len]; omega)]
    rfl
  rintro m st ⟨i, b, p, T, rfl, hT, hm, hi, hb, ⟨hp⟩⟩
  obtain ⟨J, rfl⟩ := gt_open hT
  clear hT
  refine ⟨fun hlt => ?_, fun hge => ?_⟩
  · obtain ⟨q, rfl⟩ : ∃ q, i = q + 1 := ⟨i - 1, by omega⟩
    obtain ⟨x, hx, hx2⟩ := wl_at (s := s) (i := q) (by omega)
    have hd : (wl s).drop q = x.toNat :: (wl s).drop (q + 1) := drop_at hx2
    have hok : p.Ok n := by rw [hp]; exact h.act ((wl s).drop (q + 1))
    refine ⟨by kernel_rfl, ?_⟩
    refine ⟨_, rfl, rfl, ?_⟩
    refine ⟨by omega, x, by rw [show (((q + 1 : Nat) : Int) - 1).toNat = q by omega]; exact hx, ?_⟩
    refine callq rfl (letter_ct S hS (b := x.toNat) h0 hn hok) (by omega) ?_
    rintro _ rfl
    refine ⟨_, _, rfl, ⟨rfl, Nat.le_refl 2, rfl⟩, _, rfl, _, rfl, ?_⟩
    refine ⟨⟨by omega, by omega⟩, ?_⟩
    exact ⟨q, by omega, ci ⟨q, _, p.let x.toNat, _, rfl, ⟨rfl, rfl, rfl, rfl, by show pn ((((q + 1 : Nat) : Int) - 1) - 1) = pn ((q : Int) - 1); congr 1; omega, trivial⟩, rfl, by omega, by omega, ⟨by rw [hd, hp]; rfl⟩⟩⟩
  · have hi0 : i = 0 := by omega
    subst hi0
    refine ⟨_, rfl, ?_⟩
    refine ⟨_, _, rfl, ⟨rfl, Nat.le_refl 2, rfl⟩, _, rfl, _, rfl, ?_⟩
    exact ⟨_, rfl, endq rfl (by rw [hp]; rfl)⟩
theorem fn27 : ctx.fn 27 = some c27 := by kernel_rfl
theorem fewK_ct (hS : OldO S) {r u : List Int} {k : Int} : Ct (ctx.plus S) 27 [pO r u, pn k] 1 fun v => (((r.length : Int) ≤ k ∧ (u.length : Int) ≤ k) ∧ v = .bool true) ∨ (¬ ((r.length : Int) ≤ k ∧ (u.length : Int) ≤ k) ∧ v = .bool false) := by
  refine ct_of (hS 27 (by decide)) fn27 ?_
  refine ⟨by omega, ?_⟩
  refine ⟨_, rfl, ?_⟩
  refine ⟨fun h1 => ?_, fun h1 => ?_⟩
  · refine ⟨_, rfl, ?_⟩
    refine ⟨fun h2 => ?_, fun h2 => ?_⟩
    · exact endq rfl (.inl ⟨⟨h1, h2⟩, rfl⟩)
    · exact endq rfl (.inr ⟨fun h => by have := h.2; omega, rfl⟩)
  · exact endq rfl (.inr ⟨fun h => by have := h.1; omega, rfl⟩)
theorem fn5 : ctx.fn 5 = some c5 := by kernel_rfl
theorem actsLaw_ct (hS : OldO S) (hA : Ct (ctx.plus S) 15 [] 0 fun r => r = .bool true) {r u : List Int} {s : ByteArray} : Ct (ctx.plus S) 5 [pO r u, .str s] 10000000 fun v => v = .bool true := by
  refine ct_of (hS 5 (by decide)) fn5 ?_
  refine ⟨by omega, ?_⟩
  refine callq rfl hA (by omega) ?_
  rintro _ rfl
  refine ⟨_, rfl, ?_⟩
  refine callq rfl (fewK_ct S hS (k := 12)) (by omega) ?_
  rintro _ (⟨hf, rfl⟩ | ⟨hf, rfl⟩)
  · refine ⟨fun h => ?_, fun h => ?_⟩
    · exact endq rfl rfl
    have hs : s.size ≤ 230 := by omega
    have l1 : r.length ≤ 12 ∧ u.length ≤ 12 := by omega
    have hchk := rcheck_ct S hS (r := r) (u := u) (by omega) (by omega)
    by_cases hb : chkO r u ≠ 0 ∨ chkW s ≠ 0
    · refine ⟨_, rfl, ?_⟩
      refine callq rfl (pact_bad S hS (by omega) (by omega) (by omega) hb) (by omega) ?_
      rintro _ rfl
      refine ⟨by omega, ?_⟩
      refine ⟨_, _, push_get, ⟨rfl, Nat.le_refl 2, rfl⟩, _, rfl, _, rfl, ?_⟩
      refine ⟨_, rfl, ?_⟩
      refine callq rfl hchk (by omega) ?_
      rintro _ rfl
      refine ⟨fun h => ?_, fun h => ?_⟩
      · have h : chkO r u = 0 := h
        have hw : chkW s ≠ 0 := by rcases hb with hb | hb; exact absurd h hb; exact hb
        refine callq rfl (rcheckWord_ct S hS (by omega)) (by omega) ?_
        rintro _ rfl
        refine ⟨fun _ => ?_, fun h => absurd h hw⟩
        rw [if_pos h]
        refine ⟨fun _ => ?_, fun h => absurd rfl h⟩
        refine ⟨_, rfl, ?_⟩
        refine callq rfl (nothing_ct S hS) (by omega) ?_
        rintro _ rfl
        exact endq rfl rfl
      · have h : ¬ chkO r u = 0 := h
        refine ⟨fun _ => ?_, fun h2 => absurd h2 h⟩
        rw [if_neg h]
        refine ⟨fun _ => ?_, fun h => absurd rfl h⟩
        refine ⟨_, rfl, ?_⟩
        refine callq rfl (nothing_ct S hS) (by omega) ?_
        rintro _ rfl
        exact endq rfl rfl
    · have h0 : chkO r u = 0 := Classical.byContradiction fun h => hb (.inl h)
      have hw : chkW s = 0 := Classical.byContradiction fun h => hb (.inr h)
      obtain ⟨n, f, f', g, g', h⟩ := chkO_ok h0
      have hp := h.pos
      have hn := h.le
      have hok : (o4 f f' g g').Ok n := ⟨h.pr, h.pu⟩
      obtain ⟨-, -, rfl, rfl, -, -⟩ := h
      have hok2 := hok.act (wl s)
      refine ⟨_, rfl, ?_⟩
      refine callq rfl (pact_ct S hS (o := o4 f f' g g') hp hn hok hw) (by omega) ?_
      rintro _ rfl
      refine ⟨by omega, ?_⟩
      refine ⟨_, _, push_get, ⟨rfl, Nat.le_refl 2, rfl⟩, _, rfl, _, rfl, ?_⟩
      refine ⟨_, rfl, ?_⟩
      refine callq rfl hchk (by omega) ?_
      rintro _ rfl
      rw [h0]
      refine ⟨fun _ => ?_, fun h => absurd rfl h⟩
      refine callq rfl (rcheckWord_ct S hS (by omega)) (by omega) ?_
      rintro _ rfl
      rw [hw]
      refine ⟨fun h => absurd rfl h, fun _ => ?_⟩
      refine ⟨by kernel_rfl, ?_⟩
      refine ⟨fun _ => ?_, fun h => absurd rfl h⟩
      refine ⟨_, rfl, rfl, ?_⟩
      refine ⟨_, rfl, rfl, ?_⟩
      refine callq rfl (ract_ct S hS (o := o4 f f' g g') hp hn hok (by omega)) (by omega) ?_
      rintro _ rfl
      refine callq rfl (sameO_ct S hS (by rw [PL_len]; omega) (by rw [PL_len]; omega) (by rw [PL_len]; omega) (by rw [PL_len]; omega)) (by omega) ?_
      rintro _ rfl
      rw [decide_eq_true ⟨rfl, rfl⟩]
      exact endq rfl rfl
  · exact endq rfl rfl
end Go.PI
