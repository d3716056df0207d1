/- Own work of the verifier: HoL HoN. -/
import Derived.Test.YtfebkjgioddgaaaHpBA
set_option linter.all false
set_option exponentiation.threshold 3000
set_option linter.deprecated false
/- THE LAND of the reference. -/
open Go.Proofs
namespace Go.PI
open IM
set_option maxRecDepth 10000
set_option maxHeartbeats 4000000
variable (S : FuncId → Option (List AV → Heap → Option (AV × Heap)))
def OLd : Opn := ⟨fun t => Nat.beq t 34 || Nat.beq t 3, fun t => Nat.beq t 34 || Nat.beq t 22 || Nat.beq t 3, false⟩
variable {n : Nat} {c c' f f' g g' : Nat → Nat}
theorem fn49 : ctx.fn 49 = some c49 := by kernel_rfl
theorem turn_cm (hS : OldO S) {r u : List Int} (ho : IsO r u n f f' g g') {x y z : PV} {k : Nat} (hk : k < n) {σ : List StB} :
    Cm (ctx.plus S) 49 [.agg [z, pIs (PL n f), pIs (PL n g), pIs (PL n f'), pIs (PL n g'), x, y], pn k] σ 1 fun w σ' => w = pn (cmf f f' g g' k) ∧ ∃ b, σ' = σ ++ [b] := by
  have hn := ho.le
  have l1 : (PL n f).length = n := PL_len
  have l2 : (PL n g).length = n := PL_len
  have l3 : (PL n f').length = n := PL_len
  have l4 : (PL n g').length = n := PL_len
  have h1 := ho.pr.glt k hk
  have h2 := ho.pu.glt _ h1
  have h3 := ho.pr.lt _ h2
  have h4 := ho.pu.lt _ h3
  refine cm_of OLd (hS 49 (by decide)) fn49 fun c k0 hc => ?_
  refine ⟨by omega, ?_⟩
  refine ⟨by kernel_rfl, ?_⟩
  refine ⟨_, load_liv push_get rfl rfl, rfl, ?_⟩
  refine ⟨_, load_liv push_get rfl rfl, rfl, ?_⟩
  refine ⟨_, load_liv push_get rfl rfl, rfl, ?_⟩
  refine ⟨_, load_liv push_get rfl rfl, rfl, ?_⟩
  refine ⟨⟨⟨by omega, by omega⟩, len_map_le (by omega)⟩, ?_⟩
  refine ⟨_, ld (at_map (PL_get hk)) (by show _ * 1 = k; omega), rfl, ?_⟩
  refine ⟨⟨⟨by omega, by omega⟩, len_map_le (by omega)⟩, ?_⟩
  refine ⟨_, ld (at_map (PL_get h1)) (by show _ * 1 = f' k; omega), rfl, ?_⟩
  refine ⟨⟨⟨by omega, by omega⟩, len_map_le (by omega)⟩, ?_⟩
  refine ⟨_, ld (at_map (PL_get h2)) (by show _ * 1 = g' (f' k); omega), rfl, ?_⟩
  refine ⟨⟨⟨by omega, by omega⟩, len_map_le (by omega)⟩, ?_⟩
  refine ⟨_, ld (at_map (PL_get h3)) (by show _ * 1 = f (g' (f' k)); omega), rfl, ?_⟩
  exact endm [] (by dsimp only; omega) ⟨rfl, _, rfl⟩
/-! ### Corners -/
/-- x lies in the cycle of a first square below i -/
def Rd (c : Nat → Nat) (i x : Nat) : Prop := ∃ m, m < i ∧ lead c m ∧ InC c m x
open Classical in
noncomputable def cr (c : Nat → Nat) (i x : Nat) : Int := if Rd c i x then (vn c x : Int) else -1
open Classical in
noncomputable def crTo (c : Nat → Nat) (i j x : Nat) : Int := if Rd c i x then (vn c x : Int) else if ∃ q, q < j ∧ it c q i = x then ((cycs i c).length : Int) else -1
theorem rd_self (h : IsP n c c') {i : Nat} (hi : i < n) : Rd c i i ↔ ¬ lead c i := by
  constructor
  · rintro ⟨m, h1, h2, h3⟩ hl
    have := hl m (h3.symm h (by omega))
    omega
  · intro hl
    obtain ⟨m, h1, h2, h3⟩ := lead_of h hi
    refine ⟨m, ?_, h2, h3⟩
    rcases Nat.lt_or_ge m i with a | a
    · exact a
    · exact absurd (by rw [show i = m by omega]; exact h2) hl
theorem cr_zero : cr c 0 = fun _ => -1 := funext fun x => by
  unfold cr
  rw [if_neg (by rintro ⟨m, h, -⟩; omega)]
theorem cr_skip {i : Nat} (hl : ¬ lead c i) : cr c (i + 1) = cr c i := funext fun x => by
  have : Rd c (i + 1) x ↔ Rd c i x := by
    constructor
    · rintro ⟨m, h1, h2, h3⟩
      refine ⟨m, ?_, h2, h3⟩
      rcases Nat.lt_or_ge m i with a | a
      · exact a
      · exact absurd (by rw [show i = m by omega]; exact h2) hl
    · rintro ⟨m, h1, h2⟩
      exact ⟨m, by omega, h2⟩
  unfold cr
  by_cases h : Rd c i x
  · rw [if_pos h, if_pos (this.2 h)]
  · rw [if_neg h, if_neg (fun e => h (this.1 e))]
theorem crTo_zero {i : Nat} : crTo c i 0 = cr c i := funext fun x => by
  unfold crTo cr
  by_cases h : Rd c i x
  · rw [if_pos h, if_pos h]
  · rw [if_neg h, if_neg h, if_neg (by rintro ⟨q, h, -⟩; omega)]
theorem not_rd (h : IsP n c c') {i : Nat} (hi : i < n) (hl : lead c i) (q : Nat) : ¬ Rd c i (it c q i) := by
  rintro ⟨m, h1, h2, h3⟩
  have := lead_one h (by omega) hi h2 hl h3 ⟨q, rfl⟩
  omega
theorem crTo_new (h : IsP n c c') {i j : Nat} (hi : i < n) (hl : lead c i) (hj : j < ordr c i) : crTo c i j (it c j i) = -1 := by
  unfold crTo
  rw [if_neg (not_rd h hi hl j), if_neg]
  rintro ⟨q, hq, he⟩
  obtain ⟨o1, o2, o3, o4⟩ := ordr_spec h hi
  have e : it c j i = it c q (it c (j - q) i) := by rw [← it_add]; congr 1; omega
  rw [e] at he
  exact o4 (j - q) (by omega) (by omega) (it_inj h (it_lt h hi _) hi he.symm)
theorem crTo_next (h : IsP n c c') {i j : Nat} (hi : i < n) (hl : lead c i) : crTo c i (j + 1) = fun x => if x = it c j i then ((cycs i c).length : Int) else crTo c i j x := funext fun x => by
  unfold crTo
  by_cases e : x = it c j i
  · subst e
    rw [if_pos rfl, if_neg (not_rd h hi hl j), if_pos ⟨j, by omega, rfl⟩]
  · rw [if_neg e]
    by_cases h1 : Rd c i x
    · rw [if_pos h1, if_pos h1]
    · rw [if_neg h1, if_neg h1]
      by_cases h2 : ∃ q, q < j ∧ it c q i = x
      · obtain ⟨q, hq, hx⟩ := h2
        rw [if_pos ⟨q, by omega, hx⟩, if_pos ⟨q, hq, hx⟩]
      · rw [if_neg h2, if_neg]
        rintro ⟨q, hq, hx⟩
        rcases Nat.lt_or_ge q j with a | a
        · exact h2 ⟨q, a, hx⟩
        · exact e (by rw [← hx, show q = j by omega])
theorem crTo_end (h : IsP n c c') {i : Nat} (hi : i < n) (hl : lead c i) : ∀ x, x < n → crTo c i (ordr c i) x = cr c (i + 1) x := fun x hx => by
  unfold crTo cr
  by_cases h1 : Rd c i x
  · obtain ⟨m, a, b⟩ := id h1
    rw [if_pos h1, if_pos ⟨m, by omega, b⟩]
  · rw [if_neg h1]
    by_cases h2 : InC c i x
    · have hm : (x : Int) ∈ cyc c i := (mem_cyc h hi).2 ⟨x, rfl, h2⟩
      obtain ⟨q, hq, he⟩ := List.mem_map.1 hm
      rw [if_pos ⟨q, List.mem_range.1 hq, by omega⟩, if_pos ⟨i, by omega, hl, h2⟩, vn_eq h hx hi hl h2]
    · rw [if_neg, if_neg]
      · rintro ⟨m, a, b, d⟩
        rcases Nat.lt_or_ge m i with e | e
        · exact h1 ⟨m, e, b, d⟩
        · exact h2 (by rw [show i = m by omega]; exact d)
      · rintro ⟨q, hq, he⟩
        exact h2 ⟨q, he⟩
theorem cr_end (h : IsP n c c') : ∀ x, x < n → cr c n x = vn c x := fun x hx => by
  obtain ⟨m, h1, h2, h3⟩ := lead_of h hx
  unfold cr
  rw [if_pos ⟨m, by omega, h2, h3⟩]
theorem cr_pos (h : IsP n c c') {i : Nat} (hi : i < n) : 0 ≤ cr c i i ↔ ¬ lead c i := by
  rw [← rd_self h hi]
  unfold cr
  by_cases h1 : Rd c i i
  · rw [if_pos h1]; exact ⟨fun _ => h1, fun _ => by omega⟩
  · rw [if_neg h1]; exact ⟨fun h => by omega, fun h => absurd h h1⟩
theorem crTo_full (h : IsP n c c') {i : Nat} (hi : i < n) (hl : lead c i) : crTo c i (ordr c i) (it c (ordr c i) i) = (cycs i c).length := by
  obtain ⟨o1, o2, o3, o4⟩ := ordr_spec h hi
  rw [o2]
  unfold crTo
  rw [if_neg (show ¬ Rd c i i from not_rd h hi hl 0), if_pos ⟨0, o1, rfl⟩]
/-! ### The land -/
/-- the land of an origami -/
noncomputable def land (n : Nat) (f f' g g' : Nat → Nat) : PV := .agg [pn n, pIs (PL n f), pIs (PL n g), pIs (PL n f'), pIs (PL n g'), pIs (PL n (vn (cmf f f' g g'))), pn (cycs n (cmf f f' g g')).length]
theorem clos_pn : ∀ xs : List Int, clos (xs.map pn) = true
  | [] => rfl
  | x :: xs => by simp only [List.map_cons, clos, clos_pn xs, Bool.and_true]; rfl
theorem fn14 : ctx.fn 14 = some c14 := by kernel_rfl
theorem ropen_ct (hS : OldO S) {r u : List Int} (ho : IsO r u n f f' g g') : Ct (ctx.plus S) 14 [pO r u] 5000 fun w => w = land n f f' g g' := by
  have hn := ho.le
  have hc := ho.cm
  have hturn := fun {x y z : PV} {k : Nat} (hk : k < n) {σ : List StB} => turn_cm S hS ho (x := x) (y := y) (z := z) hk (σ := σ)
  obtain ⟨h0, -, rfl, rfl, pr, pu⟩ := id ho
  obtain ⟨c, hcc⟩ : ∃ c, c = cmf f f' g g' := ⟨_, rfl⟩
  unfold land
  rw [← hcc] at hc ⊢
  simp only [← hcc] at hturn
  have l1 : (PL n f).length = n := PL_len
  refine ctO_of OLd (hS 14 (by decide)) fn14 ?_
  refine ⟨by omega, ?_⟩
  refine ⟨by omega, ?_⟩
  refine ⟨by kernel_rfl, ?_⟩
  refine ⟨_, rfl, rfl, ?_⟩
  refine ⟨_, rfl, rfl, ?_⟩
  refine ⟨_, rfl, rfl, ?_⟩
  refine ⟨_, rfl, rfl, ?_⟩
  refine callq rfl (rinverse_ct S hS pr (by omega)) (by omega) ?_
  rintro _ rfl
  refine ⟨_, rfl, rfl, ?_⟩
  refine callq rfl (rinverse_ct S hS pu (by omega)) (by omega) ?_
  rintro _ rfl
  refine ⟨_, rfl, ?_⟩
  refine ⟨by omega, ?_⟩
  refine ⟨_, _, rfl, ⟨rfl, Nat.le_of_ble_eq_true rfl, rfl⟩, _, rfl, _, rfl, ?_⟩
  refine ⟨_, rfl, ?_⟩
  refine ⟨by omega, ⟨by omega, by omega, by omega⟩, _, FL_rep, ?_⟩
  refine ⟨_, _, rfl, ⟨rfl, Nat.le_of_ble_eq_true rfl, rfl⟩, _, rfl, _, rfl, ?_⟩
  have hLD : ∀ y : Int, ∃ l : List PV, l = [pn (PL n f).length, pIs (PL n f), pIs (PL n g), pIs (PL n f'), pIs (PL n g'), .own 3 0 (PL n f).length (PL n f).length 1, pn y] := fun y => ⟨_, rfl⟩
  refine ⟨fun m s => ∃ (i b : Nat) (h : Nat → Int) (T : List PV), s = ⟨T, [.live 24 [pIs (PL n f), pIs (PL n g)], .liv 34 [pn 0, .nils, .nils, .nils, .nils, .nils, pn 0], .liv 34 [pn (PL n f).length, pIs (PL n f), pIs (PL n g), pIs (PL n f'), pIs (PL n g'), .own 3 0 (PL n f).length (PL n f).length 1, pn 0], .liv 3 ((FL (PL n f).length h).map pn)], b⟩ ∧ Gt T 68 [(2, .optr 1 0), (3, .optr 2 0), (4, pn i)] ∧ m = n - i ∧ i ≤ n ∧ b ≤ 300 ∧ Hid (∀ x, x < i → h x = -1), ⟨_, ci ⟨0, _, _, _, rfl, ⟨rfl, rfl, rfl, rfl, trivial⟩, rfl, Nat.zero_le _, by omega, ⟨fun x hx => by omega⟩⟩⟩, ?_⟩
  rintro _ s ⟨i, b, h, T, rfl, hT, rfl, hi, hb, hh⟩
  obtain ⟨J, rfl⟩ := gt_open hT
  clear hT
  refine ⟨_, load_liv rfl rfl rfl, ?_⟩
  refine ⟨fun hlt => ?_, fun hge => ?_⟩
  · have hin : i < n := by omega
    refine ⟨_, load_liv rfl rfl rfl, ?_⟩
    refine ⟨⟨by omega, by omega⟩, ?_⟩
    refine ⟨_, _, rfl, ⟨rfl, by rw [List.length_map, FL_len]; show 0 + i * 1 + 1 ≤ _; omega, rfl⟩, _, FL_put (i := i) (by show 0 + i * 1 = i; omega) (by omega), _, rfl, ?_⟩
    refine ⟨⟨by omega, by omega⟩, ?_⟩
    refine ⟨_, by omega, ci ⟨i + 1, _, _, _, rfl, ⟨rfl, rfl, rfl, rfl, trivial⟩, rfl, by omega, hb, ⟨fun x hx => ?_⟩⟩⟩
    show (if x = i then _ else _) = _
    by_cases e : x = i
    · rw [if_pos e]
    · rw [if_neg e]; exact hh.h x (by omega)
  have hie : i = n := by omega
  have hh0 : FL (PL n f).length h = FL (PL n f).length (cr c 0) := FL_eq fun x hx => by rw [cr_zero]; exact hh.h x (by omega)
  rw [hh0]
  clear hh hge hie hh0
  refine ⟨fun m s => ∃ (i b : Nat) (σ : List StB) (T : List PV), s = ⟨T, σ, b⟩ ∧ Gt T 68 [(2, .optr 1 0), (3, .optr 2 0), (5, pn i)] ∧ m = n - i ∧ i ≤ n ∧ b ≤ 300 + 61 * i ∧ Hid (4 ≤ σ.length ∧ σ[1]? = some (.liv 34 [pn 0, .nils, .nils, .nils, .nils, .nils, pn 0]) ∧ σ[2]? = some (.liv 34 [pn (PL n f).length, pIs (PL n f), pIs (PL n g), pIs (PL n f'), pIs (PL n g'), .own 3 0 (PL n f).length (PL n f).length 1, pn (cycs i c).length]) ∧ σ[3]? = some (.liv 3 ((FL (PL n f).length (cr c i)).map pn))), ⟨_, ci ⟨0, _, _, _, rfl, ⟨rfl, rfl, rfl, rfl, trivial⟩, rfl, Nat.zero_le _, by omega, ⟨Nat.le_refl _, rfl, rfl, rfl⟩⟩⟩, ?_⟩
  rintro _ s ⟨i, b, σ, T, rfl, hT, rfl, hi, hb, hh⟩
  obtain ⟨J, rfl⟩ := gt_open hT
  clear hT
  obtain ⟨g0, g1, g2, g3⟩ := hh.h
  clear hh
  refine ⟨_, load_liv g2 rfl rfl, ?_⟩
  refine ⟨fun hlt => ?_, fun hge => ?_⟩
  · have hin : i < n := by omega
    refine ⟨_, load_liv g2 rfl rfl, ?_⟩
    refine ⟨⟨by omega, by omega⟩, ?_⟩
    have hat : ∀ q, q = i → partP t3 ((FL (PL n f).length (cr c i)).map pn) q = some (pn (cr c i i)) := fun q hq => by rw [hq]; exact at_map (FL_get (by omega))
    refine ⟨_, load_liv g3 rfl (hat (0 + i * 1) (by omega)), ?_⟩
    refine ⟨fun h1 => ?_, fun h1 => ?_⟩
    · have hnl : ¬ lead c i := (cr_pos hc hin).1 (by omega)
      refine ⟨⟨by omega, by omega⟩, ?_⟩
      exact ⟨_, by omega, ci ⟨i + 1, _, _, _, rfl, ⟨rfl, rfl, rfl, rfl, trivial⟩, rfl, by omega, by omega, ⟨g0, g1, by rw [cycs_no hnl]; exact g2, by rw [cr_skip hnl]; exact g3⟩⟩⟩
    have hld : lead c i := Classical.byContradiction fun hnl => by have := (cr_pos hc hin).2 hnl; omega
    obtain ⟨o1, o2, o3, o4⟩ := ordr_spec hc hin
    have hcl : (cycs i c).length ≤ i := cycs_len (Nat.le_refl i)
    refine ⟨fun q s => ∃ (j b : Nat) (σ : List StB) (T : List PV), s = ⟨T, σ, b⟩ ∧ Gt T 68 [(2, .optr 1 0), (3, .optr 2 0), (5, pn i), (6, pn (it c j i))] ∧ q = ordr c i - j ∧ j ≤ ordr c i ∧ b ≤ 300 + 61 * i + j ∧ Hid (4 ≤ σ.length ∧ σ[1]? = some (.liv 34 [pn 0, .nils, .nils, .nils, .nils, .nils, pn 0]) ∧ σ[2]? = some (.liv 34 [pn (PL n f).length, pIs (PL n f), pIs (PL n g), pIs (PL n f'), pIs (PL n g'), .own 3 0 (PL n f).length (PL n f).length 1, pn (cycs i c).length]) ∧ σ[3]? = some (.liv 3 ((FL (PL n f).length (crTo c i j)).map pn))), ⟨_, ci ⟨0, _, _, _, rfl, ⟨rfl, rfl, rfl, rfl, rfl, trivial⟩, rfl, Nat.zero_le _, by omega, ⟨g0, g1, g2, by rw [crTo_zero]; exact g3⟩⟩⟩, ?_⟩
    clear g0 g1 g2 g3
    rintro _ s ⟨j, b2, σ2, T, rfl, hT, rfl, hj, hb2, hh⟩
    obtain ⟨J, rfl⟩ := gt_open hT
    clear hT
    obtain ⟨g0, g1, g2, g3⟩ := hh.h
    clear hh
    have hit := it_lt hc hin j
    have hat2 : ∀ q, q = it c j i → partP t3 ((FL (PL n f).length (crTo c i j)).map pn) q = some (pn (crTo c i j (it c j i))) := fun q hq => by rw [hq]; exact at_map (FL_get (by omega))
    refine ⟨_, load_liv g2 rfl rfl, ?_⟩
    refine ⟨⟨by omega, by omega⟩, ?_⟩
    refine ⟨_, load_liv g3 rfl (hat2 (0 + it c j i * 1) (by omega)), ?_⟩
    refine ⟨fun h2 => ?_, fun h2 => ?_⟩
    · have hjl : j < ordr c i := by
        rcases Nat.lt_or_ge j (ordr c i) with a | a
        · exact a
        · exfalso
          have e : j = ordr c i := by omega
          subst e
          rw [crTo_full hc hin hld] at h2
          omega
      refine ⟨_, load_liv g2 rfl rfl, ?_⟩
      refine ⟨_, load_liv g2 rfl rfl, ?_⟩
      refine ⟨⟨by omega, by omega⟩, ?_⟩
      refine ⟨_, _, g3, ⟨rfl, by rw [List.length_map, FL_len]; show 0 + it c j i * 1 + 1 ≤ _; omega, rfl⟩, _, FL_put (i := it c j i) (by show 0 + it c j i * 1 = it c j i; omega) (by omega), _, rfl, ?_⟩
      have e1 : ∀ y, (σ2.set 3 y)[1]? = some (StB.liv 34 [pn 0, .nils, .nils, .nils, .nils, .nils, pn 0]) := fun y => by rw [List.getElem?_set_ne (by omega)]; exact g1
      have e2 : ∀ y, (σ2.set 3 y)[2]? = some (StB.liv 34 [pn (PL n f).length, pIs (PL n f), pIs (PL n g), pIs (PL n f'), pIs (PL n g'), .own 3 0 (PL n f).length (PL n f).length 1, pn (cycs i c).length]) := fun y => by rw [List.getElem?_set_ne (by omega)]; exact g2
      refine ⟨.agg [pn (PL n f).length, pIs (PL n f), pIs (PL n g), pIs (PL n f'), pIs (PL n g'), .own 3 0 (PL n f).length (PL n f).length 1, pn (cycs i c).length], load_liv (e2 _) rfl rfl, ?_⟩
      refine callm (hturn hit) (by omega) ?_
      rintro _ σ3 ⟨rfl, bb, rfl⟩
      exact ⟨_, by omega, ci ⟨j + 1, _, _, _, rfl, ⟨rfl, rfl, rfl, rfl, rfl, trivial⟩, rfl, by omega, by omega, ⟨by rw [List.length_append, List.length_set]; omega, push_old (e1 _), push_old (e2 _), push_old (by rw [List.getElem?_set_self (by omega), crTo_next hc hin hld])⟩⟩⟩
    · have hjl : j = ordr c i := by
        rcases Nat.lt_or_ge j (ordr c i) with a | a
        · rw [crTo_new hc hin hld a] at h2
          exact absurd h2 (by decide)
        · omega
      rw [hjl] at g3
      refine ⟨_, load_liv g2 rfl rfl, ?_⟩
      refine ⟨⟨by omega, by omega⟩, ?_⟩
      refine ⟨_, _, g2, ⟨rfl, Nat.le_of_ble_eq_true rfl, rfl⟩, [pn (PL n f).length, pIs (PL n f), pIs (PL n g), pIs (PL n f'), pIs (PL n g'), .own 3 0 (PL n f).length (PL n f).length 1, pn ((cycs i c).length + 1)], rfl, _, rfl, ?_⟩
      refine ⟨⟨by omega, by omega⟩, ?_⟩
      refine ⟨_, by omega, ci ⟨i + 1, _, _, _, rfl, ⟨rfl, rfl, rfl, rfl, trivial⟩, rfl, by omega, by omega, ⟨by rw [List.length_set]; exact g0, by rw [List.getElem?_set_ne (by omega)]; exact g1, ?_, ?_⟩⟩⟩
      · rw [List.getElem?_set_self (by omega), cycs_yes hld, List.length_append]
        rfl
      · rw [List.getElem?_set_ne (by omega), g3]
        congr 3
        exact FL_eq fun x hx => crTo_end hc hin hld x (by omega)
  · have hie : i = n := by omega
    rw [hie] at g2 g3
    refine ⟨.agg [pn (PL n f).length, pIs (PL n f), pIs (PL n g), pIs (PL n f'), pIs (PL n g'), .own 3 0 (PL n f).length (PL n f).length 1, pn (cycs n c).length], load_liv g2 rfl rfl, ?_⟩
    refine ⟨_, _, g1, ⟨rfl, Nat.le_of_ble_eq_true rfl, rfl⟩, [pn (PL n f).length, pIs (PL n f), pIs (PL n g), pIs (PL n f'), pIs (PL n g'), .own 3 0 (PL n f).length (PL n f).length 1, pn (cycs n c).length], rfl, _, rfl, ?_⟩
    refine ⟨.agg [pn (PL n f).length, pIs (PL n f), pIs (PL n g), pIs (PL n f'), pIs (PL n g'), .own 3 0 (PL n f).length (PL n f).length 1, pn (cycs n c).length], load_liv (List.getElem?_set_self (by omega)) rfl rfl, ?_⟩
    have hve : FL (PL n f).length (cr c n) = PL n (vn c) := by
      rw [l1, FL_PL]
      exact FL_eq fun x hx => cr_end hc x hx
    refine ⟨⟨[3], 3, _, by rw [List.getElem?_set_ne (by omega)]; exact g3, frzsK_clo (clos_pn _) ⟨_, rfl, ?_⟩⟩⟩
    refine ⟨3, _, _, contOf_live (List.getElem?_set_self (by rw [List.length_set]; omega)), ⟨by rw [List.length_map, FL_len]; omega, Nat.le_refl _⟩, rfl, ?_⟩
    show _ = PV.agg _
    rw [List.drop_zero, List.take_of_length_le (by rw [List.length_map, FL_len]; omega), hve]
    show PV.agg [pn (PL n f).length, _, _, _, _, .lst (PL n f).length _, _] = _
    rw [l1]
    unfold pIs
    rw [PL_len, PL_len, PL_len, PL_len, PL_len]
end Go.PI
/- CHAINS AND BOUNDARIES of the reference; the law of boundaries. -/
open Go.Proofs
namespace Go.PI
open IM
set_option maxRecDepth 10000
set_option maxHeartbeats 4000000
variable (S : FuncId → Option (List AV → Heap → Option (AV × Heap)))
theorem FL_add {n : Nat} {h : Nat → Int} {o i : Nat} {x : Int} (ho : o = i) (hi : i < n) : pspl ((FL n h).map pn) o [pn (h i + x)] = (FL n fun j => h j + if j = i then x else 0).map pn := by
  rw [FL_put ho hi]
  congr 1
  refine FL_eq fun j hj => ?_
  by_cases e : j = i
  · rw [if_pos e, if_pos e, e]
  · rw [if_neg e, if_neg e, Int.add_zero]
theorem FL_sub {n : Nat} {h : Nat → Int} {o i : Nat} {x : Int} (ho : o = i) (hi : i < n) : pspl ((FL n h).map pn) o [pn (h i - x)] = (FL n fun j => h j - if j = i then x else 0).map pn := by
  rw [FL_put ho hi]
  congr 1
  refine FL_eq fun j hj => ?_
  by_cases e : j = i
  · rw [if_pos e, if_pos e, e]
  · rw [if_neg e, if_neg e, Int.sub_zero]
variable {n : Nat} {c c' f f' g g' : Nat → Nat}
theorem fn20 : ctx.fn 20 = some c20 := by kernel_rfl
theorem rwithin_ct (hS : OldO S) {x a b : Int} : Ct (ctx.plus S) 20 [pn x, pn a, pn b] 0 fun r => r = .bool (decide (a ≤ x ∧ x ≤ b)) := by
  refine ct_of (hS 20 (by decide)) fn20 ?_
  refine ⟨fun h1 => ?_, fun h1 => ?_⟩
  · refine ⟨fun h2 => ?_, fun h2 => ?_⟩
    · exact endq rfl (by rw [decide_eq_true ⟨by omega, by omega⟩])
    · exact endq rfl (by rw [decide_eq_false (by omega)])
  · exact endq rfl (by rw [decide_eq_false (by omega)])
theorem fn16 : ctx.fn 16 = some c16 := by kernel_rfl
theorem rcheckChain_ct (hS : OldO S) {xs : List Int} (hn : n ≤ 60) (hl : xs.length ≤ 1000000) : Ct (ctx.plus S) 16 [land n f f' g g', pIs xs] 1 fun w => w = pn (chkC n xs) := by
  unfold land
  refine ct_of (hS 16 (by decide)) fn16 ?_
  refine ⟨by omega, ?_⟩
  refine ⟨_, rfl, ?_⟩
  refine ⟨⟨by omega, by omega⟩, ?_⟩
  refine ⟨fun h1 => ?_, fun h1 => ?_⟩
  · exact endq rfl (by rw [chkC10 (by omega)])
  refine ⟨fun m s => ∃ (i : Nat) (T : List PV) (σ : List StB), s = ⟨T, σ, 1⟩ ∧ Gt T 24 [(1, pIs xs), (5, pn i)] ∧ m = xs.length - i ∧ i ≤ xs.length ∧ Hid (Wi (xs.take i) 1000000), ⟨_, ci ⟨0, _, _, rfl, ⟨rfl, rfl, rfl, trivial⟩, rfl, Nat.zero_le _, ⟨fun x hx => by simp at hx⟩⟩⟩, ?_⟩
  rintro _ s ⟨i, T, σ, rfl, hT, rfl, hi, hw⟩
  obtain ⟨J, rfl⟩ := gt_open hT
  clear hT
  refine ⟨fun hlt => ?_, fun hge => ?_⟩
  · obtain ⟨e, he⟩ := xs_get (xs := xs) (i := i) (by omega)
    refine ⟨⟨⟨by omega, by omega⟩, len_map_le (by omega)⟩, ?_⟩
    refine ⟨_, ld (at_map he) (by show _ * 1 = i; omega), ?_⟩
    refine callq rfl (rwithin_ct S hS) (by omega) ?_
    rintro _ rfl
    by_cases h2 : -1000000 ≤ e ∧ e ≤ 1000000
    · rw [decide_eq_true h2]
      refine ⟨⟨by omega, by omega⟩, ?_⟩
      exact ⟨_, by omega, ci ⟨i + 1, _, _, rfl, ⟨rfl, rfl, rfl, trivial⟩, rfl, by omega, ⟨fun x hx => by
        rw [take_snoc he] at hx
        rcases List.mem_append.1 hx with hx | hx
        · exact hw.h x hx
        · rw [List.mem_singleton.1 hx]; exact h2⟩⟩⟩
    · rw [decide_eq_false h2]
      exact endq rfl (by rw [chkC2 (by omega) fun h => h2 (h e (List.mem_of_getElem? he))])
  · refine endq rfl ?_
    have := hw.h
    rw [List.take_of_length_le (by omega)] at this
    rw [chkC0 (by omega) this]
theorem fn17 : ctx.fn 17 = some c17 := by kernel_rfl
theorem rboundary_ct (hS : OldO S) {r u : List Int} (ho : IsO r u n f f' g g') {C : Nat → Int} (hC : Wi (FL (2 * n) C) 1000000) :
    Ct (ctx.plus S) 17 [land n f f' g g', pIs (FL (2 * n) C)] 10 fun w => w = pIs (FL (cycs n (cmf f f' g g')).length fun w => sumN (bterm n (cmf f f' g g') f g C w) (2 * n)) := by
  have hn := ho.le
  have hc := ho.cm
  have hCi := wi_FL hC
  obtain ⟨h0, -, rfl, rfl, pr, pu⟩ := id ho
  obtain ⟨c, hcc⟩ : ∃ c, c = cmf f f' g g' := ⟨_, rfl⟩
  unfold land
  rw [← hcc] at hc ⊢
  have hV : (cycs n c).length ≤ n := cycs_len (Nat.le_refl n)
  have hvn := fun x (h : x < n) => vn_lt hc h
  obtain ⟨V, hVe⟩ : ∃ V, V = (cycs n c).length := ⟨_, rfl⟩
  rw [← hVe] at hV ⊢
  simp only [← hVe] at hvn
  have l1 : (PL n f).length = n := PL_len
  have l2 : (PL n g).length = n := PL_len
  have lv : (PL n (vn c)).length = n := PL_len
  have hFl : (FL (2 * n) C).length = 2 * n := FL_len
  have hfin : (fun w => sumN (bterm n c f g C w) (2 * n)) = fun w => sumN (fun i => bterm n c f g C w i + bterm n c f g C w (n + i)) n := funext fun w => by
    rw [show 2 * n = n + n by omega, sumN_add, sumN_plus]
  rw [hfin]
  refine ct_of (hS 17 (by decide)) fn17 ?_
  refine ⟨by omega, ?_⟩
  refine ⟨_, rfl, ?_⟩
  refine ⟨by omega, ⟨by omega, by omega, by omega⟩, _, FL_rep, ?_⟩
  refine ⟨fun m s => ∃ (i : Nat) (T : List PV), s = ⟨T, [.live 34 [pn n, pIs (PL n f), pIs (PL n g), pIs (PL n f'), pIs (PL n g'), pIs (PL n (vn c)), pn V], .live 3 ((FL V fun w => sumN (fun i => bterm n c f g C w i + bterm n c f g C w (n + i)) i).map pn)], 2⟩ ∧ Gt T 97 [(1, pIs (FL (2 * n) C)), (2, .optr 0 0), (5, .own 1 0 V V 1), (6, pn i)] ∧ m = n - i ∧ i ≤ n, ⟨_, ci ⟨0, _, rfl, ⟨rfl, rfl, rfl, rfl, rfl, trivial⟩, rfl, Nat.zero_le _⟩⟩, ?_⟩
  rintro _ s ⟨i, T, rfl, hT, rfl, hi⟩
  obtain ⟨J, rfl⟩ := gt_open hT
  clear hT
  refine ⟨_, rfl, ?_⟩
  refine ⟨fun hlt => ?_, fun hge => ?_⟩
  · have hin : i < n := by omega
    have hf := pr.lt i hin
    have hg := pu.lt i hin
    have hF := hvn i hin
    have hR := hvn _ hf
    have hU := hvn _ hg
    have hc1 := hCi i (by omega)
    have hc2 := hCi (n + i) (by omega)
    have hsb : ∀ w, -(i * 2000000) ≤ sumN (fun i => bterm n c f g C w i + bterm n c f g C w (n + i)) i ∧ sumN (fun i => bterm n c f g C w i + bterm n c f g C w (n + i)) i ≤ i * 2000000 := fun w => sumN_le fun j hj => by
      have a1 := bterm_le (n := n) (c := c) (f := f) (g := g) (w := w) (hCi j (by omega))
      have a2 := bterm_le (n := n) (c := c) (f := f) (g := g) (w := w) (hCi (n + j) (by omega))
      omega
    refine ⟨_, rfl, ?_⟩
    refine ⟨⟨⟨by omega, by omega⟩, len_map_le (by omega)⟩, ?_⟩
    refine ⟨_, ld (at_map (PL_get hin)) (by show _ * 1 = i; omega), ?_⟩
    refine ⟨by kernel_rfl, ?_⟩
    refine ⟨_, rfl, rfl, ?_⟩
    refine ⟨_, rfl, rfl, ?_⟩
    refine ⟨⟨⟨by omega, by omega⟩, len_map_le (by omega)⟩, ?_⟩
    refine ⟨_, ld (at_map (PL_get hin)) (by show _ * 1 = i; omega), rfl, ?_⟩
    refine ⟨⟨⟨by omega, by omega⟩, len_map_le (by omega)⟩, ?_⟩
    refine ⟨_, ld (at_map (PL_get hf)) (by show _ * 1 = f i; omega), rfl, ?_⟩
    refine ⟨_, rfl, rfl, ?_⟩
    refine ⟨_, rfl, rfl, ?_⟩
    refine ⟨⟨⟨by omega, by omega⟩, len_map_le (by omega)⟩, ?_⟩
    refine ⟨_, ld (at_map (PL_get hin)) (by show _ * 1 = i; omega), rfl, ?_⟩
    refine ⟨⟨⟨by omega, by omega⟩, len_map_le (by omega)⟩, ?_⟩
    refine ⟨_, ld (at_map (PL_get hg)) (by show _ * 1 = g i; omega), rfl, ?_⟩
    obtain ⟨h0, e0⟩ : ∃ h0 : Nat → Int, h0 = fun w => sumN (fun i => bterm n c f g C w i + bterm n c f g C w (n + i)) i := ⟨_, rfl⟩
    obtain ⟨h1, e1⟩ : ∃ h1 : Nat → Int, h1 = fun w => h0 w + if w = vn c (f i) then C i else 0 := ⟨_, rfl⟩
    obtain ⟨h2, e2⟩ : ∃ h2 : Nat → Int, h2 = fun w => h1 w - if w = vn c i then C i else 0 := ⟨_, rfl⟩
    obtain ⟨h3, e3⟩ : ∃ h3 : Nat → Int, h3 = fun w => h2 w + if w = vn c (g i) then C (n + i) else 0 := ⟨_, rfl⟩
    obtain ⟨h4, e4⟩ : ∃ h4 : Nat → Int, h4 = fun w => h3 w - if w = vn c i then C (n + i) else 0 := ⟨_, rfl⟩
    have b0 : ∀ w, -(i * 2000000) ≤ h0 w ∧ h0 w ≤ i * 2000000 := fun w => by rw [e0]; exact hsb w
    have b1 : ∀ w, -(i * 2000000) - 1000000 ≤ h1 w ∧ h1 w ≤ i * 2000000 + 1000000 := fun w => by
      have := b0 w
      rw [e1]
      show _ ≤ h0 w + _ ∧ h0 w + _ ≤ _
      split <;> omega
    have b2 : ∀ w, -(i * 2000000) - 2000000 ≤ h2 w ∧ h2 w ≤ i * 2000000 + 2000000 := fun w => by
      have := b1 w
      rw [e2]
      show _ ≤ h1 w - _ ∧ h1 w - _ ≤ _
      split <;> omega
    have b3 : ∀ w, -(i * 2000000) - 3000000 ≤ h3 w ∧ h3 w ≤ i * 2000000 + 3000000 := fun w => by
      have := b2 w
      rw [e3]
      show _ ≤ h2 w + _ ∧ h2 w + _ ≤ _
      split <;> omega
    have p1 : ∀ q, q = vn c (f i) → pspl ((FL V fun w => sumN (fun i => bterm n c f g C w i + bterm n c f g C w (n + i)) i).map pn) q [pn (h0 (vn c (f i)) + C i)] = (FL V h1).map pn := fun q hq => by rw [e1, ← e0]; exact FL_add hq hR
    have p2 : ∀ q, q = vn c i → pspl ((FL V h1).map pn) q [pn (h1 (vn c i) - C i)] = (FL V h2).map pn := fun q hq => by rw [e2]; exact FL_sub hq hF
    have p3 : ∀ q, q = vn c (g i) → pspl ((FL V h2).map pn) q [pn (h2 (vn c (g i)) + C (n + i))] = (FL V h3).map pn := fun q hq => by rw [e3]; exact FL_add hq hU
    have p4 : ∀ q, q = vn c i → pspl ((FL V h3).map pn) q [pn (h3 (vn c i) - C (n + i))] = (FL V h4).map pn := fun q hq => by rw [e4]; exact FL_sub hq hF
    have a0 : ∀ q, q = vn c (f i) → ((FL V fun w => sumN (fun i => bterm n c f g C w i + bterm n c f g C w (n + i)) i).map pn)[q]? = some (pn (h0 (vn c (f i)))) := fun q hq => by rw [hq, e0]; exact at_map (FL_get hR)
    have c1 := b0 (vn c (f i))
    have c2 := b1 (vn c i)
    have c3 := b2 (vn c (g i))
    have c4 := b3 (vn c i)
    refine ⟨by kernel_rfl, ?_⟩
    refine ⟨⟨by omega, by omega⟩, ?_⟩
    refine ⟨_, load_k rfl rfl rfl (a0 _ (by show 0 + vn c (f i) * 1 = vn c (f i); omega)) rfl, rfl, ?_⟩
    refine ⟨⟨⟨by omega, by omega⟩, len_map_le (by omega)⟩, ?_⟩
    refine ⟨_, ld (at_map (FL_get (show i < 2 * n by omega))) (by show _ * 1 = i; omega), rfl, ?_⟩
    refine ⟨⟨by omega, by omega⟩, ?_⟩
    refine ⟨⟨by omega, by omega⟩, ?_⟩
    refine ⟨_, _, rfl, ⟨rfl, by rw [List.length_map, FL_len]; show 0 + vn c (f i) * 1 + 1 ≤ _; omega, rfl⟩, _, p1 (0 + vn c (f i) * 1) (by omega), _, rfl, ?_⟩
    refine ⟨by kernel_rfl, ?_⟩
    refine ⟨⟨by omega, by omega⟩, ?_⟩
    refine ⟨_, load_k rfl rfl rfl (at_map (FL_get hF)) (by show 0 + vn c i * 1 = vn c i; omega), rfl, ?_⟩
    refine ⟨⟨⟨by omega, by omega⟩, len_map_le (by omega)⟩, ?_⟩
    refine ⟨_, ld (at_map (FL_get (show i < 2 * n by omega))) (by show _ * 1 = i; omega), rfl, ?_⟩
    refine ⟨⟨by omega, by omega⟩, ?_⟩
    refine ⟨⟨by omega, by omega⟩, ?_⟩
    refine ⟨_, _, rfl, ⟨rfl, by rw [List.length_map, FL_len]; show 0 + vn c i * 1 + 1 ≤ _; omega, rfl⟩, _, p2 (0 + vn c i * 1) (by omega), _, rfl, ?_⟩
    refine ⟨by kernel_rfl, ?_⟩
    refine ⟨⟨by omega, by omega⟩, ?_⟩
    refine ⟨_, load_k rfl rfl rfl (at_map (FL_get hU)) (by show 0 + vn c (g i) * 1 = vn c (g i); omega), rfl, ?_⟩
    refine ⟨_, rfl, rfl, ?_⟩
    refine ⟨⟨by omega, by omega⟩, ?_⟩
    refine ⟨⟨⟨by omega, by omega⟩, len_map_le (by omega)⟩, ?_⟩
    refine ⟨_, ld (at_map (FL_get (show n + i < 2 * n by omega))) (by show _ * 1 = n + i; omega), rfl, ?_⟩
    refine ⟨⟨by omega, by omega⟩, ?_⟩
    refine ⟨⟨by omega, by omega⟩, ?_⟩
    refine ⟨_, _, rfl, ⟨rfl, by rw [List.length_map, FL_len]; show 0 + vn c (g i) * 1 + 1 ≤ _; omega, rfl⟩, _, p3 (0 + vn c (g i) * 1) (by omega), _, rfl, ?_⟩
    refine ⟨by kernel_rfl, ?_⟩
    refine ⟨⟨by omega, by omega⟩, ?_⟩
    refine ⟨_, load_k rfl rfl rfl (at_map (FL_get hF)) (by show 0 + vn c i * 1 = vn c i; omega), rfl, ?_⟩
    refine ⟨_, rfl, rfl, ?_⟩
    refine ⟨⟨by omega, by omega⟩, ?_⟩
    refine ⟨⟨⟨by omega, by omega⟩, len_map_le (by omega)⟩, ?_⟩
    refine ⟨_, ld (at_map (FL_get (show n + i < 2 * n by omega))) (by show _ * 1 = n + i; omega), rfl, ?_⟩
    refine ⟨⟨by omega, by omega⟩, ?_⟩
    refine ⟨⟨by omega, by omega⟩, ?_⟩
    refine ⟨_, _, rfl, ⟨rfl, by rw [List.length_map, FL_len]; show 0 + vn c i * 1 + 1 ≤ _; omega, rfl⟩, _, p4 (0 + vn c i * 1) (by omega), _, rfl, ?_⟩
    refine ⟨⟨by omega, by omega⟩, ?_⟩
    have hfx : FL V h4 = FL V fun w => sumN (fun i => bterm n c f g C w i + bterm n c f g C w (n + i)) (i + 1) := FL_eq fun w hw => by
      show _ = sumN (fun i => bterm n c f g C w i + bterm n c f g C w (n + i)) i + (bterm n c f g C w i + bterm n c f g C w (n + i))
      have z0 : h0 w = sumN (fun i => bterm n c f g C w i + bterm n c f g C w (n + i)) i := by rw [e0]
      rw [← z0, e4, e3, e2, e1]
      unfold bterm enn bgn
      rw [if_pos hin, if_pos hin, if_neg (show ¬ n + i < n by omega), if_neg (show ¬ n + i < n by omega), show n + i - n = i by omega]
      show h0 w + _ - _ + _ - _ = _
      generalize (if w = vn c (f i) then C i else 0) = x1
      generalize (if w = vn c i then C i else 0) = x2
      generalize (if w = vn c (g i) then C (n + i) else 0) = x3
      generalize (if w = vn c i then C (n + i) else 0) = x4
      omega
    rw [hfx]
    exact ⟨_, by omega, ci ⟨i + 1, _, rfl, ⟨rfl, rfl, rfl, rfl, rfl, trivial⟩, rfl, by omega⟩⟩
  · have hie : i = n := by omega
    rw [hie]
    exact endf (fz_ints rfl FL_len) rfl
end Go.PI
