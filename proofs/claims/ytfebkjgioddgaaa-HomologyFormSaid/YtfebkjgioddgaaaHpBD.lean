/- Own work of the verifier: HoP HoQ. -/
import Derived.Test.YtfebkjgioddgaaaHpBB
import Derived.Test.YtfebkjgioddgaaaHpBA
set_option linter.all false
set_option exponentiation.threshold 3000
set_option linter.deprecated false
/- INTERSECTION NUMBERS: they are antisymmetric, and 0 with boundaries. -/
open Go.Proofs
namespace Go.PI
open IM
set_option maxRecDepth 10000
set_option maxHeartbeats 4000000
/-! ### Sums -/
theorem sumN_zero {h : Nat → Int} : ∀ {k : Nat}, (∀ i, i < k → h i = 0) → sumN h k = 0
  | 0, _ => rfl
  | k + 1, e => by
    show sumN h k + h k = 0
    rw [sumN_zero fun i hi => e i (by omega), e k (by omega)]; rfl
theorem sumN_mul (x : Int) (h : Nat → Int) : ∀ k, sumN (fun i => x * h i) k = x * sumN h k
  | 0 => (Int.mul_zero x).symm
  | k + 1 => by
    show sumN (fun i => x * h i) k + x * h k = x * (sumN h k + h k)
    rw [sumN_mul x h k, Int.mul_add]
theorem sumN_neg (h : Nat → Int) : ∀ k, sumN (fun i => - h i) k = - sumN h k
  | 0 => rfl
  | k + 1 => by
    show sumN (fun i => - h i) k + - h k = - (sumN h k + h k)
    rw [sumN_neg h k]; omega
theorem sumN_sub {h h' : Nat → Int} (k : Nat) : sumN (fun i => h i - h' i) k = sumN h k - sumN h' k := by
  rw [show (fun i => h i - h' i) = fun i => h i + - h' i from funext fun i => Int.sub_eq_add_neg, sumN_plus, sumN_neg]; omega
theorem sumN_one {x : Int} {i : Nat} : ∀ {n : Nat}, i < n → sumN (fun k => if k = i then x else 0) n = x
  | 0, h => by omega
  | n + 1, h => by
    show sumN (fun k => if k = i then x else 0) n + (if n = i then x else 0) = x
    by_cases e : n = i
    · rw [if_pos e, sumN_zero fun k hk => if_neg (by omega)]; omega
    · rw [if_neg e, sumN_one (by omega)]; omega
theorem sumN_swap (H : Nat → Nat → Int) (m : Nat) : ∀ n, sumN (fun i => sumN (fun k => H i k) m) n = sumN (fun k => sumN (fun i => H i k) n) m
  | 0 => (sumN_zero fun _ _ => rfl).symm
  | n + 1 => by
    show sumN (fun i => sumN (fun k => H i k) m) n + sumN (fun k => H n k) m = sumN (fun k => sumN (fun i => H i k) n + H n k) m
    rw [sumN_swap H m n, sumN_plus]
variable {n : Nat} {c c' f f' g g' : Nat → Nat}
theorem sumN_perm (hf : IsP n f f') (h : Nat → Int) : sumN (fun i => h (f i)) n = sumN h n := by
  have h1 : sumN (fun i => h (f i)) n = sumN (fun i => sumN (fun k => if k = f i then h k else 0) n) n := sumN_eq fun i hi => by
    rw [show (fun k => if k = f i then h k else 0) = fun k => if k = f i then h (f i) else 0 from funext fun k => by by_cases e : k = f i; rw [if_pos e, if_pos e, e]; rw [if_neg e, if_neg e], sumN_one (hf.lt i hi)]
  rw [h1, sumN_swap]
  refine sumN_eq fun k hk => ?_
  have : sumN (fun i => if k = f i then h k else 0) n = sumN (fun i => if i = f' k then h k else 0) n := sumN_eq fun i hi => by
    by_cases e : k = f i
    · rw [if_pos e, if_pos (by rw [e, hf.gf i hi])]
    · rw [if_neg e, if_neg (fun e2 => e (by rw [e2, hf.fg k hk]))]
  rw [this, sumN_one (hf.glt k hk)]
open Classical in
theorem cyc_sum (h : IsP n c c') {m : Nat} (hm : m < n) (x : Nat → Int) : sumN (fun t => x (it c t m)) (ordr c m) = sumN (fun k => if InC c m k then x k else 0) n := by
  obtain ⟨o1, o2, o3, o4⟩ := ordr_spec h hm
  have huniq : ∀ a b, a < b → b < ordr c m → it c a m ≠ it c b m := fun a b hab hb e => by
    have e2 : it c b m = it c a (it c (b - a) m) := by rw [← it_add]; congr 1; omega
    rw [e2] at e
    exact o4 (b - a) (by omega) (by omega) (it_inj h hm (it_lt h hm _) e).symm
  have h1 : sumN (fun t => x (it c t m)) (ordr c m) = sumN (fun t => sumN (fun k => if k = it c t m then x k else 0) n) (ordr c m) := sumN_eq fun t ht => by
    rw [show (fun k => if k = it c t m then x k else 0) = fun k => if k = it c t m then x (it c t m) else 0 from funext fun k => by by_cases e : k = it c t m; rw [if_pos e, if_pos e, e]; rw [if_neg e, if_neg e], sumN_one (it_lt h hm t)]
  rw [h1, sumN_swap]
  refine sumN_eq fun k hk => ?_
  by_cases hi : InC c m k
  · rw [if_pos hi]
    have hmem : (k : Int) ∈ cyc c m := (mem_cyc h hm).2 ⟨k, rfl, hi⟩
    obtain ⟨q, hq, he⟩ := List.mem_map.1 hmem
    have hq := List.mem_range.1 hq
    have he : it c q m = k := by omega
    have : sumN (fun t => if k = it c t m then x k else 0) (ordr c m) = sumN (fun t => if t = q then x k else 0) (ordr c m) := sumN_eq fun t ht => by
      by_cases e : t = q
      · rw [if_pos e, if_pos (by rw [e, he])]
      · rw [if_neg e, if_neg]
        intro e2
        rw [← he] at e2
        rcases Nat.lt_or_gt_of_ne e with a | a
        · exact huniq t q a hq e2.symm
        · exact huniq q t a ht e2
    rw [this, sumN_one hq]
  · rw [if_neg hi]
    exact sumN_zero fun t ht => if_neg fun e => hi ⟨t, e.symm⟩
open Classical in
theorem all_sum (h : IsP n c c') (x : Nat → Int) : sumN (fun i => if lead c i then sumN (fun t => x (it c t i)) (ordr c i) else 0) n = sumN x n := by
  have h1 : sumN (fun i => if lead c i then sumN (fun t => x (it c t i)) (ordr c i) else 0) n = sumN (fun i => sumN (fun k => if lead c i ∧ InC c i k then x k else 0) n) n := sumN_eq fun i hi => by
    by_cases hl : lead c i
    · rw [if_pos hl, cyc_sum h hi]
      refine sumN_eq fun k hk => ?_
      by_cases e : InC c i k
      · rw [if_pos e, if_pos ⟨hl, e⟩]
      · rw [if_neg e, if_neg (fun e2 => e e2.2)]
    · rw [if_neg hl]
      exact (sumN_zero fun k hk => if_neg fun e => hl e.1).symm
  rw [h1, sumN_swap]
  refine sumN_eq fun k hk => ?_
  obtain ⟨m, m1, m2, m3⟩ := lead_of h hk
  have : sumN (fun i => if lead c i ∧ InC c i k then x k else 0) n = sumN (fun i => if i = m then x k else 0) n := sumN_eq fun i hi => by
    by_cases e : i = m
    · rw [if_pos e, if_pos (by rw [e]; exact ⟨m2, m3⟩)]
    · rw [if_neg e, if_neg]
      rintro ⟨a, b⟩
      exact e (lead_one h hi (by omega) a m2 b m3)
  rw [this, sumN_one (by omega)]
/-! ### The number -/
section
variable (n : Nat) (f f' g g' : Nat → Nat)
/-- what the moves along the edges count -/
def Fs (a b : Nat → Int) : Int := sumN (fun i => a (g i) * b (n + i) - a (n + f i) * b i) n
/-- what comes into a square more than goes out -/
def ex (b : Nat → Int) (k : Nat) : Int := b (f' k) - b k + b (n + g' k) - b (n + k)
/-- what a turn from k on crosses -/
def Wt (a : Nat → Int) (k : Nat) : Int := a (n + k) - a (f' k) - a (n + g' (cmf f f' g g' k)) + a (cmf f f' g g' k)
/-- what the turns around the vertex of m count -/
noncomputable def Gc (a b : Nat → Int) (m : Nat) : Int := sumN (fun t => sumN (fun s => ex n f' g' b (it (cmf f f' g g') s m)) (t + 1) * Wt n f f' g g' a (it (cmf f f' g g') t m)) (ordr (cmf f f' g g') m)
open Classical in
noncomputable def Isn (a b : Nat → Int) : Int := Fs n f g a b + sumN (fun i => if lead (cmf f f' g g') i then Gc n f f' g g' a b i else 0) n
/-- a cycle -/
def Cyk (a : Nat → Int) : Prop := ∀ m, m < n → lead (cmf f f' g g') m → sumN (fun s => ex n f' g' a (it (cmf f f' g g') s m)) (ordr (cmf f f' g g') m) = 0
def qq (a : Nat → Int) (k : Nat) : Int := a k - a (n + g' k)
def ss (a : Nat → Int) (k : Nat) : Int := a (n + k) - a (f' k)
end
theorem ex_qs {a : Nat → Int} {k : Nat} : ex n f' g' a k = -(qq n g' a k + ss n f' a k) := by unfold ex qq ss; omega
theorem wt_qs {a : Nat → Int} {k : Nat} : Wt n f f' g g' a k = ss n f' a k + qq n g' a (cmf f f' g g' k) := by unfold Wt qq ss; omega
theorem abel (pa qa sa pb qb sb qa' qb' : Int) : (pb - (qb + sb)) * (sa + qa') + (pa - (qa + sa)) * (sb + qb') = (qa * qb - sa * sb) + ((pb - (qb + sb)) * qa' + (pa - (qa + sa)) * qb' - (pa - (qa + sa)) * (pb - (qb + sb)) - (pb * qa + pa * qb - pa * pb)) := by grind
theorem Gc_anti {a b : Nat → Int} {m : Nat} (hm : m < n) (hl : lead (cmf f f' g g') m) (ha : Cyk n f f' g g' a) (hb : Cyk n f f' g g' b) :
    Gc n f f' g g' a b m + Gc n f f' g g' b a m = sumN (fun t => qq n g' a (it (cmf f f' g g') t m) * qq n g' b (it (cmf f f' g g') t m) - ss n f' a (it (cmf f f' g g') t m) * ss n f' b (it (cmf f f' g g') t m)) (ordr (cmf f f' g g') m) := by
  have ha := ha m hm hl
  have hb := hb m hm hl
  unfold Gc
  obtain ⟨cc, hcc⟩ : ∃ cc, cc = cmf f f' g g' := ⟨_, rfl⟩
  rw [← hcc] at ha hb ⊢
  rw [← sumN_plus]
  obtain ⟨Pa, hPa⟩ : ∃ P : Nat → Int, P = fun t => sumN (fun s => ex n f' g' a (it cc s m)) t := ⟨_, rfl⟩
  obtain ⟨Pb, hPb⟩ : ∃ P : Nat → Int, P = fun t => sumN (fun s => ex n f' g' b (it cc s m)) t := ⟨_, rfl⟩
  have key : ∀ T, sumN (fun t => Pb (t + 1) * Wt n f f' g g' a (it cc t m) + Pa (t + 1) * Wt n f f' g g' b (it cc t m)) T = sumN (fun t => qq n g' a (it cc t m) * qq n g' b (it cc t m) - ss n f' a (it cc t m) * ss n f' b (it cc t m)) T + (Pb T * qq n g' a (it cc T m) + Pa T * qq n g' b (it cc T m) - Pa T * Pb T) := by
    intro T
    induction T with
    | zero =>
      have h1 : Pa 0 = 0 := by rw [hPa]; rfl
      have h2 : Pb 0 = 0 := by rw [hPb]; rfl
      rw [h1, h2]
      simp [sumN]
    | succ T ih =>
      show sumN (fun t => Pb (t + 1) * Wt n f f' g g' a (it cc t m) + Pa (t + 1) * Wt n f f' g g' b (it cc t m)) T + (Pb (T + 1) * Wt n f f' g g' a (it cc T m) + Pa (T + 1) * Wt n f f' g g' b (it cc T m)) = sumN (fun t => qq n g' a (it cc t m) * qq n g' b (it cc t m) - ss n f' a (it cc t m) * ss n f' b (it cc t m)) T + (qq n g' a (it cc T m) * qq n g' b (it cc T m) - ss n f' a (it cc T m) * ss n f' b (it cc T m)) + (Pb (T + 1) * qq n g' a (it cc (T + 1) m) + Pa (T + 1) * qq n g' b (it cc (T + 1) m) - Pa (T + 1) * Pb (T + 1))
      have h1 : Pa (T + 1) = Pa T - (qq n g' a (it cc T m) + ss n f' a (it cc T m)) := by
        rw [hPa]
        show sumN (fun s => ex n f' g' a (it cc s m)) T + ex n f' g' a (it cc T m) = sumN (fun s => ex n f' g' a (it cc s m)) T - _
        rw [ex_qs (a := a) (k := it cc T m)]; omega
      have h2 : Pb (T + 1) = Pb T - (qq n g' b (it cc T m) + ss n f' b (it cc T m)) := by
        rw [hPb]
        show sumN (fun s => ex n f' g' b (it cc s m)) T + ex n f' g' b (it cc T m) = sumN (fun s => ex n f' g' b (it cc s m)) T - _
        rw [ex_qs (a := b) (k := it cc T m)]; omega
      have h3 : ∀ x : Nat → Int, Wt n f f' g g' x (it cc T m) = ss n f' x (it cc T m) + qq n g' x (it cc (T + 1) m) := fun x => by
        rw [wt_qs, ← hcc]; rfl
      rw [ih, h3, h3, h1, h2, abel]
      omega
  have hT := key (ordr cc m)
  have e1 : Pa (ordr cc m) = 0 := by rw [hPa]; exact ha
  have e2 : Pb (ordr cc m) = 0 := by rw [hPb]; exact hb
  rw [e1, e2] at hT
  rw [hPa, hPb] at hT
  rw [hT]
  omega
open Classical in
theorem Isn_anti (pr : IsP n f f') (pu : IsP n g g') {a b : Nat → Int} (ha : Cyk n f f' g g' a) (hb : Cyk n f f' g g' b) : Isn n f f' g g' a b + Isn n f f' g g' b a = 0 := by
  have hc : IsP n (cmf f f' g g') (cmi f f' g g') := ((pr.inv.comp pu.inv).comp pr).comp pu
  unfold Isn
  have h1 : sumN (fun i => if lead (cmf f f' g g') i then Gc n f f' g g' a b i else 0) n + sumN (fun i => if lead (cmf f f' g g') i then Gc n f f' g g' b a i else 0) n = sumN (fun k => qq n g' a k * qq n g' b k - ss n f' a k * ss n f' b k) n := by
    rw [← sumN_plus, ← all_sum hc (fun k => qq n g' a k * qq n g' b k - ss n f' a k * ss n f' b k)]
    refine sumN_eq fun i hi => ?_
    by_cases hl : lead (cmf f f' g g') i
    · rw [if_pos hl, if_pos hl, if_pos hl, Gc_anti hi hl ha hb]
    · rw [if_neg hl, if_neg hl, if_neg hl]; rfl
  have p1 := sumN_perm pu.inv (fun k => a (n + k) * b (n + k))
  have p2 := sumN_perm pr.inv (fun k => a k * b k)
  have e1 : sumN (fun i => a (g i) * b (n + i)) n = sumN (fun k => a k * b (n + g' k)) n := by
    rw [← sumN_perm pu.inv (fun i => a (g i) * b (n + i))]
    exact sumN_eq fun k hk => by rw [pu.fg k hk]
  have e2 : sumN (fun i => b (g i) * a (n + i)) n = sumN (fun k => b k * a (n + g' k)) n := by
    rw [← sumN_perm pu.inv (fun i => b (g i) * a (n + i))]
    exact sumN_eq fun k hk => by rw [pu.fg k hk]
  have e3 : sumN (fun i => a (n + f i) * b i) n = sumN (fun k => a (n + k) * b (f' k)) n := by
    rw [← sumN_perm pr.inv (fun i => a (n + f i) * b i)]
    exact sumN_eq fun k hk => by rw [pr.fg k hk]
  have e4 : sumN (fun i => b (n + f i) * a i) n = sumN (fun k => b (n + k) * a (f' k)) n := by
    rw [← sumN_perm pr.inv (fun i => b (n + f i) * a i)]
    exact sumN_eq fun k hk => by rw [pr.fg k hk]
  have hF : Fs n f g a b + Fs n f g b a = sumN (fun k => a k * b (n + g' k)) n + sumN (fun k => b k * a (n + g' k)) n - sumN (fun k => a (n + k) * b (f' k)) n - sumN (fun k => b (n + k) * a (f' k)) n := by
    unfold Fs
    rw [sumN_sub, sumN_sub, e1, e2, e3, e4]; omega
  have hQ : sumN (fun k => qq n g' a k * qq n g' b k - ss n f' a k * ss n f' b k) n = sumN (fun k => a k * b k) n + sumN (fun k => a (n + g' k) * b (n + g' k)) n - sumN (fun k => a k * b (n + g' k)) n - sumN (fun k => b k * a (n + g' k)) n - sumN (fun k => a (n + k) * b (n + k)) n - sumN (fun k => a (f' k) * b (f' k)) n + sumN (fun k => a (n + k) * b (f' k)) n + sumN (fun k => b (n + k) * a (f' k)) n := by
    rw [← sumN_plus, ← sumN_sub, ← sumN_sub, ← sumN_sub, ← sumN_sub, ← sumN_plus, ← sumN_plus]
    refine sumN_eq fun k hk => ?_
    unfold qq ss
    grind
  rw [p1, p2] at hQ
  omega
end Go.PI
/- BOUNDARIES OF SQUARES; cycles and boundaries. -/
open Go.Proofs
namespace Go.PI
open IM
set_option maxRecDepth 10000
set_option maxHeartbeats 4000000
variable {n : Nat} {f f' g g' : Nat → Nat}
/-- 1 if it holds -/
def ind (p : Prop) [Decidable p] : Int := if p then 1 else 0
theorem ind_iff {p q : Prop} [Decidable p] [Decidable q] (h : p ↔ q) : ind p = ind q := by
  unfold ind
  by_cases hp : p
  · rw [if_pos hp, if_pos (h.1 hp)]
  · rw [if_neg hp, if_neg (fun e => hp (h.2 e))]
theorem sum_ind {i : Nat} (x : Nat → Int) (hi : i < n) : sumN (fun k => ind (k = i) * x k) n = x i := by
  rw [← sumN_one (x := x i) hi]
  refine sumN_eq fun k hk => ?_
  unfold ind
  by_cases e : k = i
  · rw [if_pos e, if_pos e, e]; omega
  · rw [if_neg e, if_neg e]; omega
/-- the boundary of square i -/
def sq (n : Nat) (f' g' : Nat → Nat) (i e : Nat) : Int := ind (lft n f' e = i) - ind (rgt n g' e = i)
theorem sq_lo {i k : Nat} (hk : k < n) : sq n f' g' i k = ind (k = i) - ind (g' k = i) := by
  unfold sq lft rgt
  rw [if_pos hk, if_pos hk]
theorem sq_hi {i k : Nat} : sq n f' g' i (n + k) = ind (f' k = i) - ind (k = i) := by
  unfold sq lft rgt
  rw [if_neg (by omega), if_neg (by omega), show n + k - n = k by omega]
theorem comm_id (pr : IsP n f f') (pu : IsP n g g') {k : Nat} (hk : k < n) : f' (g' (cmf f f' g g' k)) = g' (f' k) := by
  unfold cmf
  have h1 := pr.glt k hk
  have h2 := pu.glt _ h1
  have h3 := pr.lt _ h2
  rw [pu.gf _ h3, pr.gf _ h2]
theorem ex_sq (pr : IsP n f f') (pu : IsP n g g') {i k : Nat} (hk : k < n) : ex n f' g' (sq n f' g' i) k = ind (f' (g' k) = i) - ind (f' (g' (cmf f f' g g' k)) = i) := by
  have h1 := pr.glt k hk
  have h2 := pu.glt k hk
  unfold ex
  rw [sq_lo h1, sq_lo hk, sq_hi, sq_hi, comm_id pr pu hk]
  omega
theorem wt_sq (pr : IsP n f f') (pu : IsP n g g') {i k : Nat} (hk : k < n) : Wt n f f' g g' (sq n f' g' i) k = ind (cmf f f' g g' k = i) - ind (k = i) := by
  have hc : IsP n (cmf f f' g g') (cmi f f' g g') := ((pr.inv.comp pu.inv).comp pr).comp pu
  have h1 := pr.glt k hk
  have h2 := hc.lt k hk
  have h3 := pu.glt _ h2
  unfold Wt
  rw [sq_hi, sq_lo h1, sq_hi, sq_lo h2, comm_id pr pu hk]
  omega
theorem sum_diff (x : Nat → Int) : ∀ T, sumN (fun t => x t - x (t + 1)) T = x 0 - x T
  | 0 => by simp [sumN]
  | T + 1 => by
    show sumN (fun t => x t - x (t + 1)) T + (x T - x (T + 1)) = _
    rw [sum_diff x T]; omega
theorem sq_cyk (pr : IsP n f f') (pu : IsP n g g') {i : Nat} : Cyk n f f' g g' (sq n f' g' i) := fun m hm hl => by
  have hc : IsP n (cmf f f' g g') (cmi f f' g g') := ((pr.inv.comp pu.inv).comp pr).comp pu
  rw [sumN_eq (h' := fun t => ind (f' (g' (it (cmf f f' g g') t m)) = i) - ind (f' (g' (it (cmf f f' g g') (t + 1) m)) = i)) fun t ht => ex_sq pr pu (it_lt hc hm t), sum_diff (fun t => ind (f' (g' (it (cmf f f' g g') t m)) = i)), (ordr_spec hc hm).2.1]
  show _ - _ = (0 : Int)
  exact Int.sub_self _
theorem Gc_sq (pr : IsP n f f') (pu : IsP n g g') {b : Nat → Int} {i m : Nat} (hm : m < n) (hl : lead (cmf f f' g g') m) (hb : Cyk n f f' g g' b) :
    Gc n f f' g g' (sq n f' g' i) b m = - sumN (fun t => ind (it (cmf f f' g g') t m = i) * ex n f' g' b (it (cmf f f' g g') t m)) (ordr (cmf f f' g g') m) := by
  have hc : IsP n (cmf f f' g g') (cmi f f' g g') := ((pr.inv.comp pu.inv).comp pr).comp pu
  have hb := hb m hm hl
  unfold Gc
  obtain ⟨cc, hcc⟩ : ∃ cc, cc = cmf f f' g g' := ⟨_, rfl⟩
  have hw : ∀ t, Wt n f f' g g' (sq n f' g' i) (it cc t m) = ind (it cc (t + 1) m = i) - ind (it cc t m = i) := fun t => by
    rw [hcc, wt_sq pr pu (it_lt hc hm t)]; rfl
  rw [← hcc] at hb ⊢
  have key : ∀ T, sumN (fun t => sumN (fun s => ex n f' g' b (it cc s m)) (t + 1) * Wt n f f' g g' (sq n f' g' i) (it cc t m)) T = sumN (fun s => ex n f' g' b (it cc s m)) T * ind (it cc T m = i) - sumN (fun t => ind (it cc t m = i) * ex n f' g' b (it cc t m)) T := by
    intro T
    induction T with
    | zero => simp [sumN]
    | succ T ih =>
      show sumN (fun t => sumN (fun s => ex n f' g' b (it cc s m)) (t + 1) * Wt n f f' g g' (sq n f' g' i) (it cc t m)) T + (sumN (fun s => ex n f' g' b (it cc s m)) T + ex n f' g' b (it cc T m)) * Wt n f f' g g' (sq n f' g' i) (it cc T m) = (sumN (fun s => ex n f' g' b (it cc s m)) T + ex n f' g' b (it cc T m)) * ind (it cc (T + 1) m = i) - (sumN (fun t => ind (it cc t m = i) * ex n f' g' b (it cc t m)) T + ind (it cc T m = i) * ex n f' g' b (it cc T m))
      rw [ih, hw]
      grind
  rw [key, hb]
  omega
open Classical in
theorem Isn_sq (pr : IsP n f f') (pu : IsP n g g') {b : Nat → Int} {i : Nat} (hi : i < n) (hb : Cyk n f f' g g' b) : Isn n f f' g g' (sq n f' g' i) b = 0 := by
  have hc : IsP n (cmf f f' g g') (cmi f f' g g') := ((pr.inv.comp pu.inv).comp pr).comp pu
  unfold Isn
  have h1 : sumN (fun m => if lead (cmf f f' g g') m then Gc n f f' g g' (sq n f' g' i) b m else 0) n = - ex n f' g' b i := by
    rw [← sum_ind (fun k => ex n f' g' b k) hi, ← all_sum hc (fun k => ind (k = i) * ex n f' g' b k), ← sumN_neg]
    refine sumN_eq fun m hm => ?_
    by_cases hl : lead (cmf f f' g g') m
    · rw [if_pos hl, if_pos hl, Gc_sq pr pu hm hl hb]
    · rw [if_neg hl, if_neg hl]; rfl
  have h2 : Fs n f g (sq n f' g' i) b = ex n f' g' b i := by
    unfold Fs
    have e1 : sumN (fun j => sq n f' g' i (g j) * b (n + j) - sq n f' g' i (n + f j) * b j) n = sumN (fun j => ind (g j = i) * b (n + g' (g j)) - ind (j = i) * b (n + j) - ind (j = i) * b j + ind (f j = i) * b (f' (f j))) n := sumN_eq fun j hj => by
      rw [sq_lo (pu.lt j hj), sq_hi, pu.gf j hj, pr.gf j hj]
      grind
    rw [e1, sumN_plus, sumN_sub, sumN_sub, sumN_perm pu (fun k => ind (k = i) * b (n + g' k)), sumN_perm pr (fun k => ind (k = i) * b (f' k)), sum_ind (fun k => b (n + g' k)) hi, sum_ind (fun k => b (n + k)) hi, sum_ind (fun k => b k) hi, sum_ind (fun k => b (f' k)) hi]
    unfold ex
    omega
  rw [h1, h2]
  omega
/-! ### Sums of chains -/
open Classical in
theorem Isn_lin (n : Nat) (f f' g g' : Nat → Nat) (x y b : Nat → Int) (k : Int) : Isn n f f' g g' (fun e => x e + k * y e) b = Isn n f f' g g' x b + k * Isn n f f' g g' y b := by
  unfold Isn
  have h1 : Fs n f g (fun e => x e + k * y e) b = Fs n f g x b + k * Fs n f g y b := by
    unfold Fs
    rw [← sumN_mul, ← sumN_plus]
    exact sumN_eq fun i hi => by grind
  have h2 : ∀ m, Gc n f f' g g' (fun e => x e + k * y e) b m = Gc n f f' g g' x b m + k * Gc n f f' g g' y b m := fun m => by
    unfold Gc
    rw [← sumN_mul, ← sumN_plus]
    refine sumN_eq fun t ht => ?_
    unfold Wt
    grind
  have h3 : sumN (fun i => if lead (cmf f f' g g') i then Gc n f f' g g' (fun e => x e + k * y e) b i else 0) n = sumN (fun i => if lead (cmf f f' g g') i then Gc n f f' g g' x b i else 0) n + k * sumN (fun i => if lead (cmf f f' g g') i then Gc n f f' g g' y b i else 0) n := by
    rw [← sumN_mul, ← sumN_plus]
    refine sumN_eq fun i hi => ?_
    by_cases hl : lead (cmf f f' g g') i
    · rw [if_pos hl, if_pos hl, if_pos hl, h2]
    · rw [if_neg hl, if_neg hl, if_neg hl]; omega
  rw [h1, h3]
  grind
theorem Cyk_lin {x y : Nat → Int} (k : Int) (hx : Cyk n f f' g g' x) (hy : Cyk n f f' g g' y) : Cyk n f f' g g' (fun e => x e + k * y e) := fun m hm hl => by
  have h1 := hx m hm hl
  have h2 := hy m hm hl
  have : sumN (fun s => ex n f' g' (fun e => x e + k * y e) (it (cmf f f' g g') s m)) (ordr (cmf f f' g g') m) = sumN (fun s => ex n f' g' x (it (cmf f f' g g') s m)) (ordr (cmf f f' g g') m) + k * sumN (fun s => ex n f' g' y (it (cmf f f' g g') s m)) (ordr (cmf f f' g g') m) := by
    rw [← sumN_mul, ← sumN_plus]
    refine sumN_eq fun t ht => ?_
    unfold ex
    grind
  rw [this, h1, h2]
  omega
/-! ### Boundaries -/
theorem bsum_ex (pr : IsP n f f') (pu : IsP n g g') (C : Nat → Int) {m : Nat} (hm : m < n) (hl : lead (cmf f f' g g') m) :
    sumN (bterm n (cmf f f' g g') f g C (cycs m (cmf f f' g g')).length) (2 * n) = sumN (fun s => ex n f' g' C (it (cmf f f' g g') s m)) (ordr (cmf f f' g g') m) := by
  classical
  have hc : IsP n (cmf f f' g g') (cmi f f' g g') := ((pr.inv.comp pu.inv).comp pr).comp pu
  obtain ⟨c, hcc⟩ : ∃ c, c = cmf f f' g g' := ⟨_, rfl⟩
  rw [← hcc] at hl hc ⊢
  obtain ⟨w, hw⟩ : ∃ w, w = (cycs m c).length := ⟨_, rfl⟩
  rw [← hw, cyc_sum hc hm, show 2 * n = n + n by omega, sumN_add, ← sumN_plus]
  have e1 : sumN (fun i => bterm n c f g C w i + bterm n c f g C w (n + i)) n = sumN (fun k => ind (w = vn c (f k)) * C (f' (f k)) - ind (w = vn c k) * C k + (ind (w = vn c (g k)) * C (n + g' (g k)) - ind (w = vn c k) * C (n + k))) n := sumN_eq fun k hk => by
    unfold bterm enn bgn ind
    rw [if_pos hk, if_pos hk, if_neg (show ¬ n + k < n by omega), if_neg (show ¬ n + k < n by omega), show n + k - n = k by omega, pr.gf k hk, pu.gf k hk]
    split <;> split <;> split <;> simp
  rw [e1, sumN_plus, sumN_sub, sumN_sub, sumN_perm pr (fun k => ind (w = vn c k) * C (f' k)), sumN_perm pu (fun k => ind (w = vn c k) * C (n + g' k)), ← sumN_sub, ← sumN_sub, ← sumN_plus]
  refine sumN_eq fun k hk => ?_
  have hiff : w = vn c k ↔ InC c m k := by
    constructor
    · intro e
      obtain ⟨m', h1, h2, h3⟩ := lead_of hc hk
      have hv := vn_eq hc hk (by omega) h2 h3
      have : m' = m := by
        rcases Nat.lt_trichotomy m' m with a | a | a
        · have := cycs_lt h2 a; omega
        · exact a
        · have := cycs_lt hl a; omega
      rw [← this]; exact h3
    · intro h
      rw [hw, vn_eq hc hk hm hl h]
  unfold ex
  by_cases h : InC c m k
  · rw [if_pos h, show ind (w = vn c k) = 1 from if_pos (hiff.2 h)]; omega
  · rw [if_neg h, show ind (w = vn c k) = 0 from if_neg (fun e => h (hiff.1 e))]; omega
theorem cyk_iff (pr : IsP n f f') (pu : IsP n g g') (C : Nat → Int) : Cyk n f f' g g' C ↔ ∀ w, w < (cycs n (cmf f f' g g')).length → sumN (bterm n (cmf f f' g g') f g C w) (2 * n) = 0 := by
  constructor
  · intro h w hw
    obtain ⟨l, hl⟩ : ∃ l, (cycs n (cmf f f' g g'))[w]? = some l := ⟨_, List.getElem?_eq_getElem hw⟩
    obtain ⟨m, m1, m2, -, m4⟩ := cycs_num hl
    rw [← m4, bsum_ex pr pu C m1 m2]
    exact h m m1 m2
  · intro h m hm hl
    rw [← bsum_ex pr pu C hm hl]
    exact h _ (cycs_lt hl hm)
end Go.PI
