/- Own work of the verifier: OrUz OrVa. -/
import Derived.Test.YtoppgcfijjndfaaGreatDoorOtCH
set_option linter.all false
set_option exponentiation.threshold 3000
set_option linter.deprecated false
/- THE WORD OF A UNIT: the checks before, and the reference's loop. -/
open Go.Proofs
namespace Go.PI
open IM
set_option maxRecDepth 10000
set_option maxHeartbeats 4000000
variable (S : FuncId → Option (List AV → Heap → Option (AV × Heap)))
/-- the answer of Word -/
def WordR (m : Mt) (r : PV) : Prop := (chkU m ≠ 0 ∧ r = .tup [.str ByteArray.empty, pn (chkU m)]) ∨ (chkU m = 0 ∧ WdP m r)
theorem fn20 : ctx.fn 20 = some c20 := by kernel_rfl
theorem pword_ct (hS : OldO S) (hR : RepOk S) {m : Mt} : Ct (ctx.plus S) 20 [pU m] 30 fun r => WordR m r := by
  refine ct_of (hS 20 (by decide)) fn20 ?_
  refine ⟨by omega, ?_⟩
  refine ⟨_, rfl, ?_⟩
  refine callq rfl (checkUnit_ct S hS (m := m)) (by omega) ?_
  rintro _ rfl
  refine ⟨fun h => ?_, fun h => ?_⟩
  · exact endsq rfl (.inl ⟨h, rfl⟩)
  · have h : chkU m = 0 := h
    refine ⟨_, rfl, ?_⟩
    refine callq rfl (word_ct S hS hR (m := m) (chkU_ok h)) (by omega) ?_
    rintro r hr
    have hr' : ∃ s e, r = .tup [.str s, pn e] := by
      rcases hr with ⟨-, t, e, -⟩ | ⟨-, e⟩
      · exact ⟨_, _, e⟩
      · exact ⟨_, _, e⟩
    obtain ⟨s, e, rfl⟩ := hr'
    exact endsq rfl (.inr ⟨h, hr⟩)
/-- how far the reference's word has come -/
def FarE (m p : Mt) (t : ByteArray) : Prop := Un p ∧ t.size ≤ 402 ∧ wd m = wl t ++ wd p
theorem fare_step {m p : Mt} {t u : ByteArray} (h : FarE m p t) (ht : t.size ≤ 200) (hC : p.C ≠ 0) (hk : (flo p.A p.C).natAbs ≤ 201) (hu : wl u = wl t ++ (tk (flo p.A p.C) ++ [83])) : FarE m p.st u := by
  obtain ⟨h1, h2, h3⟩ := h
  obtain ⟨hu2, -⟩ := st_un h1 hC
  have hs : u.size = t.size + ((flo p.A p.C).natAbs + 1) := size_wl (by rw [hu, List.length_append, List.length_append, wl_len, tk_len]; rfl)
  refine ⟨hu2, by omega, ?_⟩
  rw [h3, wd_step h1 hC, hu]
  simp
theorem fare_long {m p : Mt} {t : ByteArray} (h : FarE m p t) (hC : p.C ≠ 0) (hb : 201 < (flo p.A p.C).natAbs ∨ 200 < t.size) : 200 < (wd m).length := by
  obtain ⟨h1, h2, h3⟩ := h
  have hl : (wd m).length = t.size + ((flo p.A p.C).natAbs + ((wd p.st).length + 1)) := by rw [h3, wd_step h1 hC]; simp only [List.length_append, List.length_cons, wl_len, tk_len]
  omega
theorem fare_end1 {m p : Mt} {t : ByteArray} (h : FarE m p t) (hC : p.C = 0) (hA : p.A = -1) : wd m = wl t ++ ([83, 83] ++ tk (0 - p.B)) := by
  obtain ⟨h1, h2, h3⟩ := h
  rw [h3, wd_zero hC, if_pos hA, Int.zero_sub]
theorem fare_end2 {m p : Mt} {t : ByteArray} (h : FarE m p t) (hC : p.C = 0) (hA : p.A ≠ -1) : wd m = wl t ++ tk p.B := by
  obtain ⟨h1, h2, h3⟩ := h
  rw [h3, wd_zero hC, if_neg hA]
theorem fn21 : ctx.fn 21 = some c21 := by kernel_rfl
theorem rword_ct (hS : OldO S) {m : Mt} : Ct (ctx.plus S) 21 [pU m] 30 fun r => WordR m r := by
  refine ct_of (hS 21 (by decide)) fn21 ?_
  refine ⟨by omega, ?_⟩
  refine ⟨_, rfl, ?_⟩
  refine callq rfl (rcheckUnit_ct S hS (m := m)) (by omega) ?_
  rintro _ rfl
  refine ⟨fun h => ?_, fun h => ?_⟩
  · exact endsq rfl (.inl ⟨h, rfl⟩)
  have h : chkU m = 0 := h
  have hu := chkU_ok h
  have Hm : Hid (chkU m = 0) := ⟨h⟩
  refine ⟨fun q st => ∃ (p : Mt) (t : ByteArray) (T : List PV), st = ⟨T, [.live 24 [pn p.A, pn p.B, pn p.C, pn p.D]], 11⟩ ∧ Gt T 106 [(1, .optr 0 0), (5, .str t)] ∧ q = p.C.natAbs ∧ Hid (FarE m p t), ⟨_, ci ⟨m, ⟨#[]⟩, _, rfl, ⟨rfl, rfl, rfl, trivial⟩, rfl, ⟨hu, by show 0 ≤ 402; omega, rfl⟩⟩⟩, ?_⟩
  rintro q st ⟨p, t, T, rfl, hT, hq, ⟨hh⟩⟩
  obtain ⟨J, rfl⟩ := gt_open hT
  clear hT
  have hup := hh.1
  have hts := hh.2.1
  obtain ⟨⟨a6, b6, c6, d6⟩, hdet⟩ := hup
  refine ⟨_, rfl, ?_⟩
  refine ⟨fun hC => ?_, fun hC => ?_⟩
  · have hk := flo_le (p := p.A) hC
    have e1 := mul7 (x := flo p.A p.C) (y := p.C) (by omega) c6
    have e2 := mul7 (x := flo p.A p.C) (y := p.D) (by omega) d6
    refine ⟨by kernel_rfl, ?_⟩
    refine ⟨_, rfl, rfl, ?_⟩
    refine ⟨_, rfl, rfl, ?_⟩
    refine callq rfl (abs_ct S hS (by omega)) (by omega) ?_
    rintro _ rfl
    refine callq rfl (rfloor_ct S hS (p := p.A) (q := (p.C.natAbs : Nat)) (by omega) (by omega) (by omega) (floor_ex (by omega))) (by omega) ?_
    rintro _ rfl
    refine ⟨_, rfl, ?_⟩
    refine ⟨fun hn => ?_, fun hn => ?_⟩
    · refine ⟨_, rfl, ?_⟩
      refine ⟨⟨by omega, by omega⟩, ?_⟩
      refine ⟨_, rfl, ?_⟩
      refine ⟨⟨by omega, by omega⟩, ?_⟩
      refine callq rfl (rfloor_ct S hS (p := 0 - p.A) (q := 0 - p.C) (by omega) (by omega) (by omega) (floor_ex (by omega))) (by omega) ?_
      rintro _ rfl
      have ez : floorZ (0 - p.A) (0 - p.C) = flo p.A p.C := by rw [Int.zero_sub, Int.zero_sub, floor_neg hn, flo_Z hC]
      rw [ez]
      refine callq rfl (rpower_ct S hS (k := flo p.A p.C) (by omega)) (by omega) ?_
      rintro _ (⟨hk2, v, rfl, hv⟩ | ⟨hk2, rfl⟩)
      · have hvs : v.size = (flo p.A p.C).natAbs := size_wl (by rw [hv, tk_len])
        refine ⟨fun hl => ?_, fun hl => ?_⟩
        · have hl : (200 : Int) < (t.size : Nat) := hl
          exact endsq rfl (.inr ⟨h, .inr ⟨fare_long hh hC (.inr (by omega)), rfl⟩⟩)
        have hl : (t.size : Int) ≤ 200 := hl
        refine ⟨_, add_str (show _ < _ by omega), ?_⟩
        have hvs1 : ∀ x : ByteArray, x.size = 1 → ((t ++ v) ++ x).size = t.size + v.size + 1 := fun x hx => by rw [size_app, size_app, hx]
        refine ⟨_, add_str (by rw [← size_app, hvs1 _ rfl]; omega), ?_⟩
        refine ⟨_, rfl, ?_⟩
        refine ⟨_, rfl, ?_⟩
        refine ⟨_, rfl, ?_⟩
        refine ⟨⟨by omega, by omega⟩, ?_⟩
        refine ⟨_, rfl, ?_⟩
        refine ⟨⟨by omega, by omega⟩, ?_⟩
        refine ⟨⟨by omega, by omega⟩, ?_⟩
        refine ⟨_, rfl, ?_⟩
        refine ⟨⟨by omega, by omega⟩, ?_⟩
        refine ⟨_, rfl, ?_⟩
        refine ⟨⟨by omega, by omega⟩, ?_⟩
        refine ⟨⟨by omega, by omega⟩, ?_⟩
        refine partc rfl ⟨_, rfl, ?_⟩
        refine ⟨_, _, rfl, ⟨rfl, Nat.le_refl 4, rfl⟩, _, rfl, _, rfl, ?_⟩
        obtain ⟨hu2, hlt⟩ := st_un hh.1 hC
        have ep : (⟨p.C, p.D, 0 - p.A + flo p.A p.C * p.C, 0 - p.B + flo p.A p.C * p.D⟩ : Mt) = p.st := Mt.ext' rfl rfl (by show 0 - p.A + _ = -p.A + _; omega) (by show 0 - p.B + _ = -p.B + _; omega)
        refine ⟨p.st.C.natAbs, by omega, ci ⟨⟨p.C, p.D, 0 - p.A + flo p.A p.C * p.C, 0 - p.B + flo p.A p.C * p.D⟩, _, _, rfl, ⟨rfl, rfl, rfl, trivial⟩, by rw [ep], ⟨by
          rw [ep]
          exact fare_step hh (by omega) hC (by omega) (by rw [wl_app, wl_app, hv]; simp; rfl)⟩⟩⟩
      · exact endsq rfl (.inr ⟨h, .inr ⟨fare_long hh hC (.inl (by omega)), rfl⟩⟩)
    · have ez : floorZ p.A (p.C.natAbs : Nat) = flo p.A p.C := by rw [show ((p.C.natAbs : Nat) : Int) = p.C by omega, flo_Z hC]
      rw [ez]
      refine callq rfl (rpower_ct S hS (k := flo p.A p.C) (by omega)) (by omega) ?_
      rintro _ (⟨hk2, v, rfl, hv⟩ | ⟨hk2, rfl⟩)
      · have hvs : v.size = (flo p.A p.C).natAbs := size_wl (by rw [hv, tk_len])
        refine ⟨fun hl => ?_, fun hl => ?_⟩
        · have hl : (200 : Int) < (t.size : Nat) := hl
          exact endsq rfl (.inr ⟨h, .inr ⟨fare_long hh hC (.inr (by omega)), rfl⟩⟩)
        have hl : (t.size : Int) ≤ 200 := hl
        refine ⟨_, add_str (show _ < _ by omega), ?_⟩
        have hvs1 : ∀ x : ByteArray, x.size = 1 → ((t ++ v) ++ x).size = t.size + v.size + 1 := fun x hx => by rw [size_app, size_app, hx]
        refine ⟨_, add_str (by rw [← size_app, hvs1 _ rfl]; omega), ?_⟩
        refine ⟨_, rfl, ?_⟩
        refine ⟨_, rfl, ?_⟩
        refine ⟨_, rfl, ?_⟩
        refine ⟨⟨by omega, by omega⟩, ?_⟩
        refine ⟨_, rfl, ?_⟩
        refine ⟨⟨by omega, by omega⟩, ?_⟩
        refine ⟨⟨by omega, by omega⟩, ?_⟩
        refine ⟨_, rfl, ?_⟩
        refine ⟨⟨by omega, by omega⟩, ?_⟩
        refine ⟨_, rfl, ?_⟩
        refine ⟨⟨by omega, by omega⟩, ?_⟩
        refine ⟨⟨by omega, by omega⟩, ?_⟩
        refine partc rfl ⟨_, rfl, ?_⟩
        refine ⟨_, _, rfl, ⟨rfl, Nat.le_refl 4, rfl⟩, _, rfl, _, rfl, ?_⟩
        obtain ⟨hu2, hlt⟩ := st_un hh.1 hC
        have ep : (⟨p.C, p.D, 0 - p.A + flo p.A p.C * p.C, 0 - p.B + flo p.A p.C * p.D⟩ : Mt) = p.st := Mt.ext' rfl rfl (by show 0 - p.A + _ = -p.A + _; omega) (by show 0 - p.B + _ = -p.B + _; omega)
        refine ⟨p.st.C.natAbs, by omega, ci ⟨⟨p.C, p.D, 0 - p.A + flo p.A p.C * p.C, 0 - p.B + flo p.A p.C * p.D⟩, _, _, rfl, ⟨rfl, rfl, rfl, trivial⟩, by rw [ep], ⟨by
          rw [ep]
          exact fare_step hh (by omega) hC (by omega) (by rw [wl_app, wl_app, hv]; simp; rfl)⟩⟩⟩
      · exact endsq rfl (.inr ⟨h, .inr ⟨fare_long hh hC (.inl (by omega)), rfl⟩⟩)
  · have hC : p.C = 0 := hC
    refine ⟨_, rfl, ?_⟩
    refine ⟨fun hA => ?_, fun hA => ?_⟩
    · have hA1 : p.A = -1 := by rcases un_zero hh.1 hC with h | h <;> omega
      refine ⟨_, add_str (show _ + 2 < _ by omega), ?_⟩
      refine ⟨_, rfl, ?_⟩
      refine ⟨⟨by omega, by omega⟩, ?_⟩
      refine ⟨_, rfl, ?_⟩
      refine ⟨⟨by omega, by omega⟩, ?_⟩
      refine ⟨_, rfl, ?_⟩
      refine ⟨⟨by omega, by omega⟩, ?_⟩
      refine partc rfl ⟨_, rfl, ?_⟩
      refine ⟨_, _, rfl, ⟨rfl, Nat.le_refl 4, rfl⟩, _, rfl, _, rfl, ?_⟩
      have hw := fare_end1 hh hC hA1
      have hwl : (wd m).length = t.size + (2 + p.B.natAbs) := by rw [hw]; simp only [List.length_append, List.length_cons, List.length_nil, wl_len, tk_len]; omega
      refine ⟨_, rfl, ?_⟩
      refine callq rfl (rpower_ct S hS (k := 0 - p.B) (by omega)) (by omega) ?_
      rintro _ (⟨hk2, v, rfl, hv⟩ | ⟨hk2, rfl⟩)
      · have hvs : v.size = (0 - p.B).natAbs := size_wl (by rw [hv, tk_len])
        have hts1 : ∀ x : ByteArray, x.size = 2 → (t ++ x).size = t.size + 2 := fun x hx => by rw [size_app, hx]
        have hq := hts1 ⟨#[83, 83]⟩ rfl
        refine ⟨⟨by omega, by omega⟩, ?_⟩
        refine ⟨fun hl => ?_, fun hl => ?_⟩
        · have hl : (200 : Int) < ((t ++ ⟨#[83, 83]⟩).size : Nat) + (v.size : Nat) := hl
          exact endsq rfl (.inr ⟨h, .inr ⟨by omega, rfl⟩⟩)
        · have hl : ((t ++ ⟨#[83, 83]⟩).size : Int) + (v.size : Nat) ≤ 200 := hl
          refine ⟨_, add_str (by rw [hq]; omega), ?_⟩
          exact endsq rfl (.inr ⟨h, .inl ⟨by omega, _, rfl, by rw [wl_app, wl_app, hv, hw]; simp; rfl⟩⟩)
      · exact endsq rfl (.inr ⟨h, .inr ⟨by omega, rfl⟩⟩)
    · have hA1 : p.A ≠ -1 := by omega
      have hw := fare_end2 hh hC hA1
      have hwl : (wd m).length = t.size + p.B.natAbs := by rw [hw]; simp only [List.length_append, wl_len, tk_len]
      refine ⟨_, rfl, ?_⟩
      refine callq rfl (rpower_ct S hS (k := p.B) (by omega)) (by omega) ?_
      rintro _ (⟨hk2, v, rfl, hv⟩ | ⟨hk2, rfl⟩)
      · have hvs : v.size = p.B.natAbs := size_wl (by rw [hv, tk_len])
        refine ⟨⟨by omega, by omega⟩, ?_⟩
        refine ⟨fun hl => ?_, fun hl => ?_⟩
        · have hl : (200 : Int) < (t.size : Nat) + (v.size : Nat) := hl
          exact endsq rfl (.inr ⟨h, .inr ⟨by omega, rfl⟩⟩)
        · have hl : (t.size : Int) + (v.size : Nat) ≤ 200 := hl
          refine ⟨_, add_str (by omega), ?_⟩
          exact endsq rfl (.inr ⟨h, .inl ⟨by omega, _, rfl, by rw [wl_app, hv, hw]⟩⟩)
      · exact endsq rfl (.inr ⟨h, .inr ⟨by omega, rfl⟩⟩)
end Go.PI
/- THE LAW OF UNITS. -/
open Go.Proofs
namespace Go.PI
open IM
set_option maxRecDepth 10000
set_option maxHeartbeats 4000000
variable (S : FuncId → Option (List AV → Heap → Option (AV × Heap)))
theorem wl_inj {s t : ByteArray} (h : wl s = wl t) : s = t := by
  unfold wl at h
  have g : ∀ (xs ys : List UInt8), xs.map UInt8.toNat = ys.map UInt8.toNat → xs = ys := by
    intro xs
    induction xs with
    | nil => intro ys h; cases ys with
      | nil => rfl
      | cons y ys => cases h
    | cons x xs ih => intro ys h; cases ys with
      | nil => cases h
      | cons y ys =>
        simp only [List.map_cons, List.cons.injEq] at h
        rw [UInt8.toNat_inj.1 h.1, ih ys h.2]
  have h2 := g _ _ h
  cases s; cases t
  congr 1
  exact Array.ext' h2
/-- the number that Word answers -/
noncomputable def wdE (m : Mt) : Int := if chkU m ≠ 0 then chkU m else if (wd m).length ≤ 200 then 0 else 8
theorem word_shape {m : Mt} {r : PV} (h : WordR m r) : ∃ s : ByteArray, r = .tup [.str s, pn (wdE m)] ∧ ((wdE m ≠ 0 ∧ s = ByteArray.empty) ∨ (wdE m = 0 ∧ chkU m = 0 ∧ wl s = wd m ∧ s.size ≤ 200)) := by
  unfold wdE
  rcases h with ⟨h, rfl⟩ | ⟨h, ⟨h2, t, rfl, ht⟩ | ⟨h2, rfl⟩⟩
  · rw [if_pos h]; exact ⟨_, rfl, .inl ⟨h, rfl⟩⟩
  · rw [if_neg (fun x => x h), if_pos h2]; exact ⟨_, rfl, .inr ⟨rfl, h, ht, by rw [← wl_len, ht]; exact h2⟩⟩
  · rw [if_neg (fun x => x h), if_neg (by omega)]; exact ⟨_, rfl, .inl ⟨by decide, rfl⟩⟩
theorem word_same {m : Mt} {s t : ByteArray} (h : (wdE m ≠ 0 ∧ s = ByteArray.empty) ∨ (wdE m = 0 ∧ chkU m = 0 ∧ wl s = wd m ∧ s.size ≤ 200)) (h' : (wdE m ≠ 0 ∧ t = ByteArray.empty) ∨ (wdE m = 0 ∧ chkU m = 0 ∧ wl t = wd m ∧ t.size ≤ 200)) : s = t := by
  rcases h with ⟨a, h⟩ | ⟨a, -, h, -⟩ <;> rcases h' with ⟨b, h'⟩ | ⟨b, -, h', -⟩
  · rw [h, h']
  · exact absurd b a
  · exact absurd a b
  · exact wl_inj (h.trans h'.symm)
theorem tim_shape {a b : Mt} : ∃ x e, timR a b = .tup [pU x, pn e] := by
  unfold timR
  split
  · exact ⟨_, _, rfl⟩
  · split
    · exact ⟨_, _, rfl⟩
    · split <;> exact ⟨_, _, rfl⟩
theorem fn4 : ctx.fn 4 = some c4 := by kernel_rfl
theorem unitsLaw_ct (hS : OldO S) (hR : RepOk S) (hA : Ct (ctx.plus S) 15 [] 0 fun r => r = .bool true) {a b : Mt} : Ct (ctx.plus S) 4 [pU a, pU b] 20000 fun r => r = .bool true := by
  obtain ⟨x, e, ht⟩ := tim_shape (a := a) (b := b)
  have hp := ptimes_ct S hS (a := a) (b := b)
  have hr := rtimes_ct S hS (a := a) (b := b)
  rw [ht] at hp hr
  have Hp : Hid (Ct (ctx.plus S) 22 [pU a, pU b] 50 fun r => r = .tup [pU x, pn e]) := ⟨hp⟩
  have Hr : Hid (Ct (ctx.plus S) 23 [pU a, pU b] 50 fun r => r = .tup [pU x, pn e]) := ⟨hr⟩
  clear hp hr ht
  refine ct_of (hS 4 (by decide)) fn4 ?_
  refine ⟨by omega, by omega, ?_⟩
  refine callq rfl hA (by omega) ?_
  rintro _ rfl
  refine ⟨_, rfl, ?_⟩
  refine callq rfl (pword_ct S hS hR (m := a)) (by omega) ?_
  rintro r hr
  obtain ⟨s, rfl, hs⟩ := word_shape hr
  clear hr
  refine ⟨_, rfl, ?_⟩
  refine callq rfl (rword_ct S hS (m := a)) (by omega) ?_
  rintro r hr
  obtain ⟨t, rfl, hs2⟩ := word_shape hr
  clear hr
  have est := word_same hs hs2
  subst est
  clear hs2
  refine ⟨_, rfl, ?_⟩
  refine ⟨_, rfl, ?_⟩
  refine callq rfl Hp.h (by omega) ?_
  rintro _ rfl
  refine ⟨by omega, ?_⟩
  refine ⟨_, _, push_get, ⟨rfl, Nat.le_refl 4, rfl⟩, _, rfl, _, rfl, ?_⟩
  refine ⟨_, rfl, ?_⟩
  refine ⟨_, rfl, ?_⟩
  refine callq rfl Hr.h (by omega) ?_
  rintro _ rfl
  refine ⟨by omega, ?_⟩
  refine ⟨_, _, push_get, ⟨rfl, Nat.le_refl 4, rfl⟩, _, rfl, _, rfl, ?_⟩
  refine ⟨true, by simp, ?_⟩
  refine ⟨fun h => absurd rfl h, fun _ => ?_⟩
  refine ⟨_, rfl, ?_⟩
  refine ⟨_, rfl, ?_⟩
  refine ⟨true, ⟨peqI_refl [x.A, x.B, x.C, x.D], rfl⟩, ?_⟩
  refine ⟨fun h => absurd rfl h, fun _ => ?_⟩
  refine ⟨_, rfl, ?_⟩
  refine callq rfl (pinverse_ct S hS (m := a)) (by omega) ?_
  rintro _ (⟨hu, rfl⟩ | ⟨hu, rfl⟩)
  · refine ⟨by omega, ?_⟩
    refine ⟨_, _, push_get, ⟨rfl, Nat.le_refl 4, rfl⟩, _, rfl, _, rfl, ?_⟩
    refine ⟨_, rfl, ?_⟩
    refine callq rfl (rcheckUnit_ct S hS (m := a)) (by omega) ?_
    rintro _ rfl
    refine ⟨fun h => ?_, fun h => absurd h hu⟩
    refine ⟨fun _ => ?_, fun h => absurd rfl h⟩
    refine ⟨_, rfl, ?_⟩
    refine partc rfl ⟨_, rfl, ?_⟩
    refine ⟨true, ⟨peqI_refl [0, 0, 0, 0], rfl⟩, ?_⟩
    exact endq rfl rfl
  · refine ⟨by omega, ?_⟩
    refine ⟨_, _, push_get, ⟨rfl, Nat.le_refl 4, rfl⟩, _, rfl, _, rfl, ?_⟩
    refine ⟨_, rfl, ?_⟩
    refine callq rfl (rcheckUnit_ct S hS (m := a)) (by omega) ?_
    rintro _ rfl
    refine ⟨fun h => absurd hu h, fun h => ?_⟩
    refine ⟨by kernel_rfl, ?_⟩
    refine ⟨fun h => absurd rfl h, fun _ => ?_⟩
    refine ⟨_, rfl, rfl, ?_⟩
    refine ⟨_, rfl, rfl, ?_⟩
    refine callq rfl (rinv_ct S hS (m := a) (chkU_ok hu).sm) (by omega) ?_
    rintro _ rfl
    refine ⟨true, ⟨peqI_refl [a.inv.A, a.inv.B, a.inv.C, a.inv.D], rfl⟩, ?_⟩
    refine ⟨fun h => ?_, fun h => ?_⟩
    · exact endq rfl rfl
    have h : wdE a = 0 := h
    obtain ⟨h2, -⟩ | ⟨-, -, hw, hss⟩ := hs
    · exact absurd h h2
    have em : matR s = .tup [pU a, pn 0] := by
      unfold matR
      rw [if_pos (chkW0 (by omega) (by rw [hw]; exact wrd_let)), hw, wd_matrix (chkU_ok hu)]
      rfl
    have Hq : Ct (ctx.plus S) 16 [.str s] 6000 fun r => r = .tup [pU a, pn 0] := by rw [← em]; exact pmatrix_ct S hS (by omega)
    refine callq rfl Hq (by omega) ?_
    rintro _ rfl
    refine ⟨by omega, ?_⟩
    refine ⟨_, _, push_get, ⟨rfl, Nat.le_refl 4, rfl⟩, _, rfl, _, rfl, ?_⟩
    refine ⟨fun _ => ?_, fun h => absurd rfl h⟩
    refine ⟨_, rfl, ?_⟩
    refine ⟨_, rfl, ?_⟩
    refine ⟨true, ⟨peqI_refl [a.A, a.B, a.C, a.D], rfl⟩, ?_⟩
    exact endq rfl rfl
end Go.PI
