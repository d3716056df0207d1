/- Own work of the verifier: OrUy. -/
import Derived.Test.YtoppgcfijjndfaaGreatDoorOtCG
set_option linter.all false
set_option exponentiation.threshold 3000
set_option linter.deprecated false
/- THE WORD OF A UNIT, written by the program and by the reference. -/
open Go.Proofs
namespace Go.PI
open IM
set_option maxRecDepth 10000
set_option maxHeartbeats 4000000
variable (S : FuncId → Option (List AV → Heap → Option (AV × Heap)))
/-- what is answered for a unit -/
def WdP (m : Mt) (r : PV) : Prop := ((wd m).length ≤ 200 ∧ ∃ t, r = .tup [.str t, pn 0] ∧ wl t = wd m) ∨ (200 < (wd m).length ∧ r = .tup [.str ByteArray.empty, pn 8])
theorem tk_len {k : Int} : (tk k).length = k.natAbs := by unfold tk; rw [List.length_replicate]
theorem tk'_len {k : Int} : (tk' k).length = min k.natAbs 201 := by unfold tk'; rw [List.length_replicate]
theorem tk'_eq {k : Int} (h : k.natAbs ≤ 201) : tk' k = tk k := by unfold tk tk'; rw [Nat.min_eq_left h]
theorem un_neg {m : Mt} (h : Un m) : Un m.neg := by
  obtain ⟨⟨a, b, c, d⟩, e⟩ := h
  refine ⟨⟨by show In6 (0 - m.A); omega, by show In6 (0 - m.B); omega, by show In6 (0 - m.C); omega, by show In6 (0 - m.D); omega⟩, ?_⟩
  show (0 - m.A) * (0 - m.D) - (0 - m.B) * (0 - m.C) = 1
  rw [← e]
  grind
/-- how far the word has come: the rest is that of p; or it is too long already -/
def Far (m p : Mt) (t : ByteArray) : Prop := Un p ∧ t.size ≤ 1000 ∧ (wd m = wl t ++ wd p ∨ (200 < t.size ∧ 200 < (wd m).length))
theorem mul7 {x y : Int} (hx : x.natAbs ≤ 1000000) (hy : In6 y) : -1000000000000 ≤ x * y ∧ x * y ≤ 1000000000000 := mul6 (by omega) hy
theorem far_step {m p : Mt} {t u : ByteArray} (h : Far m p t) (ht : t.size ≤ 200) (hC : p.C ≠ 0) (hu : wl u = wl t ++ (tk' (flo p.A p.C) ++ [83])) : Far m p.st u := by
  obtain ⟨h1, h2, h3⟩ := h
  obtain ⟨hu2, -⟩ := st_un h1 hC
  have hs : u.size = t.size + (min (flo p.A p.C).natAbs 201 + 1) := size_wl (by rw [hu, List.length_append, List.length_append, wl_len, tk'_len]; rfl)
  refine ⟨hu2, by omega, ?_⟩
  rcases h3 with h3 | h3
  · rw [wd_step h1 hC] at h3
    by_cases hk : (flo p.A p.C).natAbs ≤ 201
    · refine .inl ?_
      rw [h3, hu, tk'_eq hk]
      simp
    · refine .inr ⟨by omega, ?_⟩
      rw [h3, List.length_append, List.length_append, tk_len]
      omega
  · omega
theorem far_end1 {m p : Mt} {t u : ByteArray} (h : Far m p t) (hC : p.C = 0 ∨ 200 < t.size) (hA : p.A = -1) (hu : wl u = wl t ++ ([83, 83] ++ tk' (0 - p.B))) : (200 < u.size → 200 < (wd m).length) ∧ (u.size ≤ 200 → (wd m).length ≤ 200 ∧ wl u = wd m) := by
  obtain ⟨h1, h2, h3⟩ := h
  have hs : u.size = t.size + (2 + min (0 - p.B).natAbs 201) := size_wl (by rw [hu]; simp only [List.length_append, List.length_cons, List.length_nil, wl_len, tk'_len])
  rcases h3 with h3 | h3
  · rcases hC with hC | hC
    · rw [wd_zero hC, if_pos hA] at h3
      have hl : (wd m).length = t.size + (2 + (0 - p.B).natAbs) := by rw [h3]; simp only [List.length_append, List.length_cons, List.length_nil, wl_len, tk_len]; omega
      refine ⟨fun h => by omega, fun h => ⟨by omega, ?_⟩⟩
      rw [hu, h3, tk'_eq (by omega), Int.zero_sub]
    · have : (wd m).length = t.size + (wd p).length := by rw [h3, List.length_append, wl_len]
      exact ⟨fun _ => by omega, fun h => by omega⟩
  · exact ⟨fun _ => h3.2, fun h => by omega⟩
theorem far_end2 {m p : Mt} {t u : ByteArray} (h : Far m p t) (hC : p.C = 0 ∨ 200 < t.size) (hA : p.A ≠ -1) (hu : wl u = wl t ++ tk' p.B) : (200 < u.size → 200 < (wd m).length) ∧ (u.size ≤ 200 → (wd m).length ≤ 200 ∧ wl u = wd m) := by
  obtain ⟨h1, h2, h3⟩ := h
  have hs : u.size = t.size + min p.B.natAbs 201 := size_wl (by rw [hu, List.length_append, wl_len, tk'_len])
  rcases h3 with h3 | h3
  · rcases hC with hC | hC
    · rw [wd_zero hC, if_neg hA] at h3
      have hl : (wd m).length = t.size + p.B.natAbs := by rw [h3, List.length_append, wl_len, tk_len]
      refine ⟨fun h => by omega, fun h => ⟨by omega, ?_⟩⟩
      rw [hu, h3, tk'_eq (by omega)]
    · have : (wd m).length = t.size + (wd p).length := by rw [h3, List.length_append, wl_len]
      exact ⟨fun _ => by omega, fun h => by omega⟩
  · exact ⟨fun _ => h3.2, fun h => by omega⟩
theorem size_app {a b : ByteArray} : (a ++ b).size = a.size + b.size := size_wl (by rw [wl_app, List.length_append, wl_len, wl_len])
theorem fn77 : ctx.fn 77 = some c77 := by kernel_rfl
theorem word_ct (hS : OldO S) (hR : RepOk S) {m : Mt} (hu : Un m) : Ct (ctx.plus S) 77 [pU m] 10 fun r => WdP m r := by
  refine ct_of (hS 77 (by decide)) fn77 ?_
  refine ⟨by omega, ?_⟩
  refine ⟨fun q st => ∃ (p : Mt) (t : ByteArray) (T : List PV), st = ⟨T, [.live 24 [pn p.A, pn p.B, pn p.C, pn p.D]], 1⟩ ∧ Gt T 61 [(1, .optr 0 0), (4, .str t)] ∧ q = p.C.natAbs ∧ Hid (Far m p t), ⟨_, ci ⟨m, _, _, rfl, ⟨rfl, rfl, rfl, trivial⟩, rfl, ⟨hu, by show 0 ≤ 1000; omega, .inl rfl⟩⟩⟩, ?_⟩
  rintro q st ⟨p, t, T, rfl, hT, hq, ⟨hh⟩⟩
  obtain ⟨J, rfl⟩ := gt_open hT
  clear hT
  have hup := hh.1
  have hts := hh.2.1
  obtain ⟨⟨a6, b6, c6, d6⟩, hdet⟩ := hup
  refine ⟨_, rfl, ?_⟩
  refine ⟨fun hC => ⟨fun hl => ?_, fun hl => ?_⟩, fun hC => ?_⟩
  · obtain ⟨hu2, hlt⟩ := st_un hh.1 hC
    have hk := flo_le (p := p.A) hC
    have e1 := mul7 (x := flo p.A p.C) (y := p.C) (by omega) c6
    have e2 := mul7 (x := flo p.A p.C) (y := p.D) (by omega) d6
    refine ⟨_, rfl, ?_⟩
    refine ⟨_, rfl, ?_⟩
    refine callq rfl (ofloor_ct S hS hC (by omega) (by omega)) (by omega) ?_
    rintro _ rfl
    rw [← flo_Z hC]
    refine callq rfl (powerT_ct S hS hR (k := flo p.A p.C) (by omega)) (by omega) ?_
    rintro _ ⟨v, rfl, hv⟩
    have hvs : v.size = min (flo p.A p.C).natAbs 201 := size_wl (by rw [hv, tk'_len])
    refine ⟨_, add_str (show _ + 1 < _ by omega), ?_⟩
    have hvs1 : ∀ x : ByteArray, x.size = 1 → (v ++ x).size = v.size + 1 := fun x hx => by rw [size_app, hx]
    refine ⟨_, add_str (by rw [hvs1 _ rfl]; omega), ?_⟩
    refine ⟨_, rfl, ?_⟩
    refine ⟨_, rfl, ?_⟩
    refine ⟨_, rfl, ?_⟩
    refine ⟨⟨by omega, by omega⟩, ?_⟩
    refine ⟨_, rfl, ?_⟩
    refine ⟨⟨by omega, by omega⟩, ?_⟩
    refine ⟨⟨by omega, by omega⟩, ?_⟩
    refine ⟨_, rfl, ?_⟩
    refine ⟨⟨by omega, by omega⟩, ?_⟩
    refine ⟨_, rfl, ?_⟩
    refine ⟨⟨by omega, by omega⟩, ?_⟩
    refine ⟨⟨by omega, by omega⟩, ?_⟩
    refine partc rfl ⟨_, rfl, ?_⟩
    refine ⟨_, _, rfl, ⟨rfl, Nat.le_refl 4, rfl⟩, _, rfl, _, rfl, ?_⟩
    have ep : (⟨p.C, p.D, 0 - p.A + flo p.A p.C * p.C, 0 - p.B + flo p.A p.C * p.D⟩ : Mt) = p.st := Mt.ext' rfl rfl (by show 0 - p.A + _ = -p.A + _; omega) (by show 0 - p.B + _ = -p.B + _; omega)
    refine ⟨p.st.C.natAbs, by omega, ci ⟨⟨p.C, p.D, 0 - p.A + flo p.A p.C * p.C, 0 - p.B + flo p.A p.C * p.D⟩, _, _, rfl, ⟨rfl, rfl, rfl, trivial⟩, by rw [ep], ⟨by
      rw [ep]
      exact far_step hh (by omega) hC (by rw [wl_app, wl_app, hv]; rfl)⟩⟩⟩
  all_goals
    have hx : p.C = 0 ∨ 200 < t.size := by omega
    refine ⟨_, rfl, ?_⟩
    refine ⟨fun hA => ?_, fun hA => ?_⟩
    · refine ⟨_, add_str (show _ + 2 < _ by omega), ?_⟩
      refine ⟨_, rfl, ?_⟩
      refine callq rfl (minus_ct S hS (m := p) ⟨a6, b6, c6, d6⟩) (by omega) ?_
      rintro _ rfl
      refine ⟨_, _, rfl, ⟨rfl, Nat.le_refl 4, rfl⟩, _, rfl, _, rfl, ?_⟩
      refine ⟨_, rfl, ?_⟩
      refine callq rfl (powerT_ct S hS hR (k := 0 - p.B) (by omega)) (by omega) ?_
      rintro _ ⟨v, rfl, hv⟩
      have hvs : v.size = min (0 - p.B).natAbs 201 := size_wl (by rw [hv, tk'_len])
      have hts1 : ∀ x : ByteArray, x.size = 2 → (t ++ x).size = t.size + 2 := fun x hx => by rw [size_app, hx]
      refine ⟨_, add_str (by rw [hts1 _ rfl]; omega), ?_⟩
      have hfin := far_end1 hh hx hA (u := t ++ ⟨#[83, 83]⟩ ++ v) (by rw [wl_app, wl_app, hv]; simp; rfl)
      refine ⟨fun h => ?_, fun h => ?_⟩
      · have h : (200 : Int) < ((t ++ ⟨#[83, 83]⟩ ++ v).size : Nat) := h
        exact endsq rfl (.inr ⟨hfin.1 (by omega), rfl⟩)
      · have h : ((t ++ ⟨#[83, 83]⟩ ++ v).size : Int) ≤ 200 := h
        obtain ⟨g1, g2⟩ := hfin.2 (by omega)
        exact endsq rfl (.inl ⟨g1, _, rfl, g2⟩)
    · refine ⟨_, rfl, ?_⟩
      refine callq rfl (powerT_ct S hS hR (k := p.B) (by omega)) (by omega) ?_
      rintro _ ⟨v, rfl, hv⟩
      have hvs : v.size = min p.B.natAbs 201 := size_wl (by rw [hv, tk'_len])
      refine ⟨_, add_str (by omega), ?_⟩
      have hfin := far_end2 hh hx hA (u := t ++ v) (by rw [wl_app, hv])
      refine ⟨fun h => ?_, fun h => ?_⟩
      · have h : (200 : Int) < ((t ++ v).size : Nat) := h
        exact endsq rfl (.inr ⟨hfin.1 (by omega), rfl⟩)
      · have h : ((t ++ v).size : Int) ≤ 200 := h
        obtain ⟨g1, g2⟩ := hfin.2 (by omega)
        exact endsq rfl (.inl ⟨g1, _, rfl, g2⟩)
end Go.PI
